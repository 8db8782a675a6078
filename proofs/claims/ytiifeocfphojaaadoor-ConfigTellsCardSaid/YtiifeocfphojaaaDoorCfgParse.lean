/- Package config's Parse, for every text of at most 200 bytes: the right configuration whose text it is, or the error's number 3 and no configuration. -/
import Derived.Test.YtiifeocfphojaaaDoorCfgRead
namespace Go.Proofs.YtiifeocfphojaaaDoor
open Go Go.RowKit
set_option maxRecDepth 100000

/-- What Parse answers. -/
def Parsed (S : ByteArray) (a b c d r : Int) : Prop := (IsText S.data.toList a b c d ∧ r = 0) ∨ ((∀ a' b' c' d', ¬ IsText S.data.toList a' b' c' d') ∧ a = 0 ∧ b = 0 ∧ c = 0 ∧ d = 0 ∧ r = 3)
def ParsePost (w : World) (S : ByteArray) (e : Ending) (w' : World) : Prop :=
  Below w.heap.size w w' ∧ ∃ a b c d r : Int, e = .returned (.tuple #[.agg #[.int .i64 a, .int .i64 b, .int .i64 c, .int .i64 d], .int .i64 r]) ∧ Parsed S a b c d r
set_option maxHeartbeats 6400000 in
theorem parse_c (S : ByteArray) (hs : S.size ≤ 200) (w : World) (hL : Laid w) : Calls Tryd.prog 10 #[.string S] w (ParsePost w S) := by
  have hb := below_new w (.cells #[.int .i64 0, .int .i64 0, .int .i64 0, .int .i64 0] 23)
  have hx : Arr4 (w.alloc (.cells #[.int .i64 0, .int .i64 0, .int .i64 0, .int .i64 0] 23)) w.heap.size 23 0 0 0 0 := by
    unfold Arr4 World.alloc; exact Array.getElem?_push_size
  have HRd := Lib.hid (read_c S hs _ (hL.below hb))
  have HX := Lib.hid hx; have HL := Lib.hid hL; have HB := Lib.hid hb
  clear hL hb hx
  go_enter Tryd.func10, Tryd.ntmps10
  go_wp2_with fail
  refine HRd.out.mono ?_
  rintro e W ⟨hW, a, b, c, d, ok, rfl, hok, hT⟩
  have HX1 := Lib.hid (HX.out.other (hW.block _ HX.out.lt))
  have HB1 := Lib.hid (belowOn HB.out hW)
  have HT := Lib.hid hT
  clear HRd HX HB hW hT
  have hlt := HX1.out.lt
  have hne : w.heap.size ≠ W.heap.size := by omega
  cases ok with
  | false =>
    have HN : Hid (∀ a b c d, ¬ IsText S.data.toList a b c d) := Lib.hid (fun a b c d h => by have := (HT.out a b c d h).1; cases this)
    obtain ⟨r0, r1, r2, r3, rf⟩ := HX1.out.cells
    obtain ⟨s0, s1, s2, s3, _⟩ := ((HX1.out.set4 0 0 0 0).other (Below.heap_alloc _ (.cells #[.int .i64 a, .int .i64 b, .int .i64 c, .int .i64 d] 23) _ (HX1.out.set4 0 0 0 0).lt)).cells
    clear hok HT
    go_wp2_with fail
    refine bodyPost_ret (v := .tuple #[.agg #[.int .i64 0, .int .i64 0, .int .i64 0, .int .i64 0], .int .i64 3]) (by simp [results, Tryd.f10, go_sem, s0, s1, s2, s3]) rfl ?_
    exact ⟨below_on (below_set4 HB1.out _ _ _ _) _, 0, 0, 0, 0, 3, rfl, .inr ⟨HN.out, rfl, rfl, rfl, rfl, rfl⟩⟩
  | true =>
    have hz := hok rfl
    have hX2 : Arr4 (W.alloc (.cells #[.int .i64 a, .int .i64 b, .int .i64 c, .int .i64 d] 23)) w.heap.size 23 0 0 0 0 := HX1.out.other (Below.heap_alloc _ _ _ hlt)
    have hX3 : Arr4 (W.alloc (.cells #[.int .i64 a, .int .i64 b, .int .i64 c, .int .i64 d] 23)) W.heap.size 23 a b c d := by unfold Arr4 World.alloc; exact Array.getElem?_push_size
    have HX2 := Lib.hid hX2; have HX3 := Lib.hid hX3
    clear hX2 hX3
    have HB2 := Lib.hid (below_on HB1.out (.cells #[.int .i64 a, .int .i64 b, .int .i64 c, .int .i64 d] 23))
    by_cases hr : Right a b c d
    · have HTx := Lib.hid (text_right a b c d hr _ (HL.out.below HB2.out))
      generalize hl : textC a b c d = l at HTx
      by_cases he : l = S.data.toList
      · have HI : Hid (IsText S.data.toList a b c d) := Lib.hid ⟨hr, by rw [hl, he]⟩
        obtain rfl : S = ⟨l.toArray⟩ := by rw [he]
        clear he hl hr hok HT HX1
        go_wp2_with fail
        refine HTx.out.mono ?_
        rintro e W2 ⟨rfl, hW⟩
        have HY := Lib.hid (HX2.out.other (hW.block _ HX2.out.lt)); have HZ := Lib.hid (HX3.out.other (hW.block _ HX3.out.lt))
        have HB3 := Lib.hid (belowOn HB2.out hW)
        obtain ⟨r0, r1, r2, r3, rf⟩ := HY.out.cells
        obtain ⟨c0, c1, c2, c3, cf⟩ := HZ.out.cells
        obtain ⟨s0, s1, s2, s3, _⟩ := (HY.out.set4 a b c d).cells
        clear HTx HX2 HX3 hW
        go_wp2_with fail
        refine bodyPost_ret (v := .tuple #[.agg #[.int .i64 a, .int .i64 b, .int .i64 c, .int .i64 d], .int .i64 0]) (by simp [results, Tryd.f10, go_sem, s0, s1, s2, s3]) rfl ?_
        exact ⟨below_set4 HB3.out _ _ _ _, a, b, c, d, 0, rfl, .inl ⟨HI.out, rfl⟩⟩
      · have HN : Hid (∀ a b c d, ¬ IsText S.data.toList a b c d) := Lib.hid (fun a' b' c' d' h => by
          obtain ⟨_, rfl, rfl, rfl, rfl⟩ := HT.out a' b' c' d' h
          exact he (by rw [h.2, hl]))
        have hq : (l == S.toList) = false := by rw [ByteArray.toList_eq]; simpa using he
        clear he hl hr hok HT HX1
        go_wp2_with fail
        refine HTx.out.mono ?_
        rintro e W2 ⟨rfl, hW⟩
        have HY := Lib.hid (HX2.out.other (hW.block _ HX2.out.lt))
        have HB3 := Lib.hid (belowOn HB2.out hW)
        obtain ⟨r0, r1, r2, r3, rf⟩ := HY.out.cells
        obtain ⟨s0, s1, s2, s3, _⟩ := (HY.out.set4 0 0 0 0).cells
        clear HTx HX2 HX3 hW
        go_wp2_with fail
        refine bodyPost_ret (v := .tuple #[.agg #[.int .i64 0, .int .i64 0, .int .i64 0, .int .i64 0], .int .i64 3]) (by simp [results, Tryd.f10, go_sem, s0, s1, s2, s3]) rfl ?_
        exact ⟨below_set4 HB3.out _ _ _ _, 0, 0, 0, 0, 3, rfl, .inr ⟨HN.out, rfl, rfl, rfl, rfl, rfl⟩⟩
    · have HTx := Lib.hid (text_wrong a b c d hr _ (HL.out.below HB2.out))
      have HN : Hid (∀ a b c d, ¬ IsText S.data.toList a b c d) := Lib.hid (fun a' b' c' d' h => by
        obtain ⟨_, rfl, rfl, rfl, rfl⟩ := HT.out a' b' c' d' h
        exact hr h.1)
      have hq : (([] : List UInt8) == S.toList) = false := by
        rw [ByteArray.toList_eq, beq_eq_false_iff_ne]
        intro e
        exact hz (by have := congrArg List.length e; simpa using this.symm)
      clear hr hok HT HX1
      go_wp2_with fail
      refine HTx.out.mono ?_
      rintro e W2 ⟨rfl, hW⟩
      have HY := Lib.hid (HX2.out.other (hW.block _ HX2.out.lt))
      have HB3 := Lib.hid (belowOn HB2.out hW)
      obtain ⟨r0, r1, r2, r3, rf⟩ := HY.out.cells
      obtain ⟨s0, s1, s2, s3, _⟩ := (HY.out.set4 0 0 0 0).cells
      clear HTx HX2 HX3 hW
      go_wp2_with fail
      refine bodyPost_ret (v := .tuple #[.agg #[.int .i64 0, .int .i64 0, .int .i64 0, .int .i64 0], .int .i64 3]) (by simp [results, Tryd.f10, go_sem, s0, s1, s2, s3]) rfl ?_
      exact ⟨below_set4 HB3.out _ _ _ _, 0, 0, 0, 0, 3, rfl, .inr ⟨HN.out, rfl, rfl, rfl, rfl, rfl⟩⟩
end Go.Proofs.YtiifeocfphojaaaDoor
