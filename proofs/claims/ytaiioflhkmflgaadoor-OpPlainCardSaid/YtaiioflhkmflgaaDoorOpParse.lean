/- Package op's Parse, for every text of at most 200 bytes: the operation whose text it is, or the error's number 3 and no operation. -/
import Derived.Test.YtaiioflhkmflgaaDoorOpRead
namespace Go.Proofs.YtaiioflhkmflgaaDoor
open Go Go.RowKit
set_option maxRecDepth 100000

theorem textL_pl {m : Nat} (h1 : 1 ≤ m) (h2 : m ≤ 11) (a b c : Int) : textL m a (plB m b) (plC m c) = textL m a b c := by
  obtain rfl | rfl | rfl | rfl | rfl | rfl | rfl | rfl | rfl | rfl | rfl := kind_cases h1 h2
  all_goals rfl
theorem pl_pl {m : Nat} (h1 : 1 ≤ m) (h2 : m ≤ 11) (b c : Int) : plB m (plB m b) = plB m b ∧ plC m (plC m c) = plC m c := by
  obtain rfl | rfl | rfl | rfl | rfl | rfl | rfl | rfl | rfl | rfl | rfl := kind_cases h1 h2
  all_goals exact ⟨rfl, rfl⟩
theorem pl_ok {m : Nat} (h1 : 1 ≤ m) (h2 : m ≤ 11) {a b c : Int} (h : ∀ p ∈ nums m a b c, 0 ≤ p.2) : 0 ≤ a ∧ 0 ≤ plB m b ∧ 0 ≤ plC m c := by
  obtain rfl | rfl | rfl | rfl | rfl | rfl | rfl | rfl | rfl | rfl | rfl := kind_cases h1 h2
  all_goals
    simp [nums, numsH, hsL, numF, List.range, List.range.loop] at h
    simp [plB, plC, codeF, hsL]
    omega
theorem plB_in {k b : Int} (h : inI b) : inI (plB k b) := by
  unfold plB; split
  · unfold inI; omega
  · exact h
theorem plC_in {k c : Int} (h : inI c) : inI (plC k c) := by
  unfold plC; split
  · unfold inI; omega
  · exact h
/-- A text that isn't empty is that of the operation without the numbers that it hasn't. -/
theorem text_is {s : List UInt8} {k a b c : Int} (ha : inI a) (hb : inI b) (hc : inI c) (h : textF k a b c = s) (hn : s ≠ []) : IsText s k a (plB k b) (plC k c) := by
  by_cases hk : okT k a b c
  · unfold textF at h
    rw [if_pos hk] at h
    have hk1 := hk.1
    obtain ⟨m, rfl, h1, h2⟩ := hk1.nat
    obtain ⟨n1, n2, n3⟩ := pl_ok h1 h2 hk.2
    obtain ⟨p1, p2⟩ := pl_pl h1 h2 b c
    exact ⟨hk.1, ⟨n1, ha⟩, ⟨n2, plB_in hb⟩, ⟨n3, plC_in hc⟩, p1, p2, by rw [textL_pl h1 h2, h]⟩
  · unfold textF at h
    rw [if_neg hk] at h
    exact absurd h.symm hn
/-- What Parse answers. -/
def Parsed (S : ByteArray) (k a b c r : Int) : Prop := (IsText S.data.toList k a b c ∧ r = 0) ∨ ((∀ k' a' b' c', ¬ IsText S.data.toList k' a' b' c') ∧ k = 0 ∧ a = 0 ∧ b = 0 ∧ c = 0 ∧ r = 3)
def ParsePost (w : World) (S : ByteArray) (e : Ending) (w' : World) : Prop :=
  Below w.heap.size w w' ∧ ∃ k a b c r : Int, e = .returned (.tuple #[.agg #[.int .i64 k, .int .i64 a, .int .i64 b, .int .i64 c], .int .i64 r]) ∧ Parsed S k a b c r
set_option maxHeartbeats 6400000 in
theorem parse_c (S : ByteArray) (hs : S.size ≤ 200) (w : World) (hL : LaidP w) : Calls Tryd.prog 17 #[.string S] w (ParsePost w S) := by
  have hb := below_new w (.cells #[.int .i64 0, .int .i64 0, .int .i64 0, .int .i64 0] 25)
  have HRd := Lib.hid (read_c S hs _ (hL.below hb))
  have HX := Lib.hid (Arr4.new w 25 0 0 0 0); have HL := Lib.hid hL; have HB := Lib.hid hb
  clear hL hb
  go_enter Tryd.func17, Tryd.ntmps17
  go_wp2_with fail
  refine HRd.out.mono ?_
  rintro e W ⟨hW, k, a, b, c, ok, rfl, hok, hT⟩
  have HX1 := Lib.hid (HX.out.other (hW.block _ HX.out.lt))
  have HB1 := Lib.hid (belowOn HB.out hW)
  have HT := Lib.hid hT
  clear HRd HX HB hW hT
  have hlt := HX1.out.lt
  have hne : w.heap.size ≠ W.heap.size := by omega
  cases ok with
  | false =>
    have HN : Hid (∀ k a b c, ¬ IsText S.data.toList k a b c) := Lib.hid (fun k a b c h => by have := (HT.out k a b c h).1; cases this)
    obtain ⟨r0, r1, r2, r3, rf⟩ := HX1.out.cells
    obtain ⟨s0, s1, s2, s3, _⟩ := ((HX1.out.set4 0 0 0 0).other (Below.heap_alloc _ (.cells #[.int .i64 k, .int .i64 a, .int .i64 b, .int .i64 c] 25) _ (HX1.out.set4 0 0 0 0).lt)).cells
    clear hok HT
    go_wp2_with fail
    refine bodyPost_ret (v := .tuple #[.agg #[.int .i64 0, .int .i64 0, .int .i64 0, .int .i64 0], .int .i64 3]) (by simp [results, Tryd.f17, go_sem, s0, s1, s2, s3]) rfl ?_
    exact ⟨below_on (below_set4 HB1.out _ _ _ _) _, 0, 0, 0, 0, 3, rfl, .inr ⟨HN.out, rfl, rfl, rfl, rfl, rfl⟩⟩
  | true =>
    obtain ⟨hz, ia, ib, ic⟩ := hok rfl
    have HX2 : Hid (Arr4 (W.alloc (.cells #[.int .i64 k, .int .i64 a, .int .i64 b, .int .i64 c] 25)) w.heap.size 25 0 0 0 0) := Lib.hid (HX1.out.other (Below.heap_alloc _ _ _ hlt))
    have HX3 := Lib.hid (Arr4.new W 25 k a b c)
    have HB2 := Lib.hid (below_on HB1.out (.cells #[.int .i64 k, .int .i64 a, .int .i64 b, .int .i64 c] 25))
    have HTx := Lib.hid (text_c k a b c ia ib ic _ (HL.out.below HB2.out).text)
    have HTI : Hid (textF k a b c = S.data.toList → IsText S.data.toList k a b c) := Lib.hid (fun e => by
      have h := text_is ia ib ic e hz
      obtain ⟨_, _, _, e2, e3⟩ := HT.out _ _ _ _ h
      rw [← e2, ← e3] at h
      exact h)
    have HTN : Hid (textF k a b c ≠ S.data.toList → ∀ k a b c, ¬ IsText S.data.toList k a b c) := Lib.hid (fun e k' a' b' c' h => by
      obtain ⟨_, rfl, rfl, rfl, rfl⟩ := HT.out _ _ _ _ h
      exact e h.eq.symm)
    clear hok HT HX1 ia ib ic hz
    generalize textF k a b c = l at *
    by_cases he : l = S.data.toList
    · have HI := Lib.hid (HTI.out he)
      obtain rfl : S = ⟨l.toArray⟩ := by rw [he]
      clear he HTI HTN
      go_wp2_with fail
      refine HTx.out.mono ?_
      rintro e W2 ⟨rfl, hW⟩
      have HY := Lib.hid (HX2.out.other (hW.block _ HX2.out.lt)); have HZ := Lib.hid (HX3.out.other (hW.block _ HX3.out.lt))
      have HB3 := Lib.hid (belowOn HB2.out hW)
      obtain ⟨r0, r1, r2, r3, rf⟩ := HY.out.cells
      obtain ⟨c0, c1, c2, c3, cf⟩ := HZ.out.cells
      obtain ⟨s0, s1, s2, s3, _⟩ := (HY.out.set4 k a b c).cells
      clear HTx HX2 HX3 hW
      go_wp2_with fail
      refine bodyPost_ret (v := .tuple #[.agg #[.int .i64 k, .int .i64 a, .int .i64 b, .int .i64 c], .int .i64 0]) (by simp [results, Tryd.f17, go_sem, s0, s1, s2, s3]) rfl ?_
      exact ⟨below_set4 HB3.out _ _ _ _, k, a, b, c, 0, rfl, .inl ⟨HI.out, rfl⟩⟩
    · have HN := Lib.hid (HTN.out he)
      have hq : (l == S.toList) = false := by rw [ByteArray.toList_eq]; simpa using he
      clear he HTI HTN
      go_wp2_with fail
      refine HTx.out.mono ?_
      rintro e W2 ⟨rfl, hW⟩
      have HY := Lib.hid (HX2.out.other (hW.block _ HX2.out.lt))
      have HB3 := Lib.hid (belowOn HB2.out hW)
      obtain ⟨r0, r1, r2, r3, rf⟩ := HY.out.cells
      obtain ⟨s0, s1, s2, s3, _⟩ := (HY.out.set4 0 0 0 0).cells
      clear HTx HX2 HX3 hW
      go_wp2_with fail
      refine bodyPost_ret (v := .tuple #[.agg #[.int .i64 0, .int .i64 0, .int .i64 0, .int .i64 0], .int .i64 3]) (by simp [results, Tryd.f17, go_sem, s0, s1, s2, s3]) rfl ?_
      exact ⟨below_set4 HB3.out _ _ _ _, 0, 0, 0, 0, 3, rfl, .inr ⟨HN.out, rfl, rfl, rfl, rfl, rfl⟩⟩
theorem Parsed.hit {S : ByteArray} {k a b c r k' a' b' c' : Int} (h : Parsed S k a b c r) (ht : IsText S.data.toList k' a' b' c') : k = k' ∧ a = a' ∧ b = b' ∧ c = c' ∧ r = 0 := by
  rcases h with ⟨h, rfl⟩ | ⟨h, _⟩
  · obtain ⟨rfl, rfl, rfl, rfl⟩ := h.inj ht
    exact ⟨rfl, rfl, rfl, rfl, rfl⟩
  · exact absurd ht (h _ _ _ _)
theorem Parsed.miss {S : ByteArray} {k a b c r : Int} (h : Parsed S k a b c r) (ht : ∀ k a b c, ¬ IsText S.data.toList k a b c) : k = 0 ∧ a = 0 ∧ b = 0 ∧ c = 0 ∧ r = 3 := by
  rcases h with ⟨h, _⟩ | ⟨_, h⟩
  · exact absurd h (ht _ _ _ _)
  · exact h
theorem Parsed.same {S : ByteArray} {k a b c r k' a' b' c' r' : Int} (h : Parsed S k a b c r) (h' : Parsed S k' a' b' c' r') : k = k' ∧ a = a' ∧ b = b' ∧ c = c' ∧ r = r' := by
  rcases h' with ⟨h', rfl⟩ | ⟨h', rfl, rfl, rfl, rfl, rfl⟩
  · exact h.hit h'
  · exact h.miss h'
end Go.Proofs.YtaiioflhkmflgaaDoor
