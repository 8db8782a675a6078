/- The document's Parse, walked: for every text of at most 200 bytes the right configuration whose text it is, or the error's number 3 and no configuration. -/
import Derived.Test.YtiifeocfphojaaaDoorCfgRefParse
namespace Go.Proofs.YtiifeocfphojaaaDoor
open Go Go.RowKit
set_option maxRecDepth 100000

theorem byteAt (S : ByteArray) (p : Nat) (h : p < S.size) : S.data.toList[p]? = some S[p] := by
  rw [List.getElem?_eq_getElem (by simpa using h)]; rfl
theorem is32 (x : UInt8) (h : x = 32) : (x.toNat : Int) = 32 := by rw [h]; rfl
theorem ne32 (x : UInt8) (h : x ≠ 32) : ((x.toNat : Int) == 32) = false := by
  rw [beq_eq_false_iff_ne]
  intro e
  have h1 : x.toNat = (32 : UInt8).toNat := by show x.toNat = 32; omega
  exact h (UInt8.toNat_inj.1 h1)
theorem no32 (x : UInt8) (h : x ≠ 32) : ¬ (x.toNat : Int) = 32 := beq_eq_false_iff_ne.1 (ne32 x h)
/-- What a digit makes of the number ahead of it. -/
def stepV (n : Int) (x : UInt8) : Int := wrap64 (wrap64 (wrap64 (10 * n) + wrap64 (x.toNat : Int)) - 48)
theorem stepV_small (n : Int) (x : UInt8) (h0 : 0 ≤ n) (h1 : n ≤ 4096) : stepV n x = 10 * n + (x.toNat : Int) - 48 := by
  have := x.toNat_lt
  unfold stepV
  rw [IntWalk.wrap64_in (10 * n) (by omega), IntWalk.wrap64_in (x.toNat : Int) (by omega), IntWalk.wrap64_in (10 * n + _) (by omega), IntWalk.wrap64_in _ (by omega)]
theorem byteNo (S : ByteArray) (p : Nat) (h : ¬ p < S.size) : S.data.toList[p]? = none := List.getElem?_eq_none (by simpa using h)
set_option maxHeartbeats 6400000 in
theorem refParse_c (S : ByteArray) (hs : S.size ≤ 200) (w : World) : Calls Tryd.prog 18 #[.string S] w (ParsePost w S) := by
  have H0 : Hid (Mem w ((w.alloc (.cells #[.int .i64 0, .int .i64 0, .int .i64 0, .int .i64 0] 23)).alloc (.cells #[.int .i64 0, .int .i64 0, .int .i64 0, .int .i64 0] 37)) (fun _ => 0)) := Lib.hid (by
    have hx : ∀ (W : World) (o : Obj), (W.alloc o).heap[W.heap.size]? = some o := fun W o => by unfold World.alloc; exact Array.getElem?_push_size
    refine ⟨?_, ?_, below_on (below_new _ _) _⟩
    · unfold Arr4; rw [Below.heap_alloc _ _ _ (by simp)]; exact hx w _
    · unfold ArrF
      have := hx (w.alloc (.cells #[.int .i64 0, .int .i64 0, .int .i64 0, .int .i64 0] 23)) (.cells #[.int .i64 0, .int .i64 0, .int .i64 0, .int .i64 0] 37)
      simpa using this)
  have A0 : Hid (AtName S.data.toList 0 0 (fun _ => 0)) := Lib.hid (fun a b c d h => ⟨fun _ => by rw [List.drop_zero, h.2]; rfl, fun j _ => by rw [if_neg (by omega)]⟩)
  go_enter Tryd.func18, Tryd.ntmps18
  go_wp2
  go_loopw [5, 6] (fun vp vk wr => ∃ (p k : Nat) (f : Nat → Int), vp = .int .i64 p ∧ vk = .int .i64 k ∧ k ≤ 4 ∧ p ≤ 1000 * (k + 1) ∧ Hid (Mem w wr f) ∧ Hid (AtName S.data.toList k p f)) (fun _ vk _ => 4 - (intOf vk).toNat)
  case atStart => exact ⟨0, 0, _, rfl, rfl, by omega, by omega, H0, A0⟩
  case round =>
    obtain ⟨p0, k, f, rfl, rfl, hk, hp0, HM, HA⟩ := hrel
    by_cases hk4 : k < 4
    · have hki : (k : Int) < 4 := by omega
      have HI : Hid (InName S.data.toList k p0 f) := Lib.hid (HA.out.enter hk4)
      clear HA H0 A0
      go_wp2
      go_loop [5] (fun vp => ∃ p : Nat, vp = .int .i64 p ∧ p ≤ 1000 * (k + 1) + 201 ∧ Hid (InName S.data.toList k p f)) (fun vp => 10000 - (intOf vp).toNat)
      case atStart => exact ⟨p0, rfl, by omega, HI⟩
      case round =>
        clear hp0 HI
        obtain ⟨p, rfl, hp, HI⟩ := hrel
        by_cases hlt : p < S.size
        · have hb := byteAt S p hlt
          by_cases h32 : S[p] = 32
          · have HN : Hid (InNum S.data.toList k (p + 1) f) := Lib.hid (HI.out.leave hk4 (fun x hx => by rw [hb] at hx; cases hx; exact h32))
            have hq : (S[p].toNat : Int) = 32 := is32 _ h32
            clear HI hb h32
            go_wp2
            go_loopw [5] (fun vp wr => ∃ (p : Nat) (f : Nat → Int), vp = .int .i64 p ∧ p ≤ 1000 * (k + 1) + 500 ∧ Hid (Mem w wr f) ∧ Hid (InNum S.data.toList k p f)) (fun vp _ => 10000 - (intOf vp).toNat)
            case atStart => exact ⟨p + 1, f, by go_num, by omega, HM, HN⟩
            case round =>
              clear HM HN
              obtain ⟨q, g, rfl, hq, HM, HN⟩ := hrel
              have hc := HM.out.nums.at hk4
              have hf := HM.out.nums.free k
              by_cases hlt : q < S.size
              · have hb := byteAt S q hlt
                by_cases h32 : S[q] = 32
                · have HE : Hid (AtName S.data.toList (k + 1) (q + 1) g) := Lib.hid (HN.out.leave (.inl (fun x hx => by rw [hb] at hx; cases hx; exact h32)))
                  have hq2 : (S[q].toNat : Int) = 32 := is32 _ h32
                  clear HN hb h32
                  go_wp2
                  go_roundw
                  case rel => exact ⟨q + 1, k + 1, g, by go_num, by go_num, by omega, by omega, HM, HE⟩
                  case measure => simp [intOf]; omega
                · have hq2 : ((S[q].toNat : Int) == 32) = false := ne32 _ h32
                  have hq2' : ¬ (S[q].toNat : Int) = 32 := no32 _ h32
                  by_cases hbig : g k < 10000
                  · have HX := Lib.hid (fun v => HN.out.next (v := v) hb h32)
                    generalize hx : S[q] = x at *
                    clear HN hb h32
                    generalize g k = gk at *
                    go_wp2
                    go_region
                    all_goals
                      go_wp2
                      go_roundw
                      case rel => exact ⟨q + 1, setF g k (stepV gk x), by go_num, by omega, Lib.hid (HM.out.set hk4 _).drew, Lib.hid (HX.out _ (fun h1 h2 => stepV_small gk x h1 h2))⟩
                      case measure => simp [intOf]; omega
                  · have HE : Hid (AtName S.data.toList (k + 1) (q + 1) g) := Lib.hid (HN.out.leave (.inr (by omega)))
                    clear HN hb h32
                    generalize g k = gk at *
                    go_wp2
                    go_roundw
                    case rel => exact ⟨q + 1, k + 1, g, by go_num, by go_num, by omega, by omega, HM, HE⟩
                    case measure => simp [intOf]; omega
              · have HE : Hid (AtName S.data.toList (k + 1) (q + 1) g) := Lib.hid (HN.out.leave (.inl (fun x hx => by rw [byteNo S q hlt] at hx; cases hx)))
                clear HN
                go_wp2
                go_roundw
                case rel => exact ⟨q + 1, k + 1, g, by go_num, by go_num, by omega, by omega, HM, HE⟩
                case measure => simp [intOf]; omega
          · have HN : Hid (InName S.data.toList k (p + 1) f) := Lib.hid (HI.out.next hb h32)
            have hq : ((S[p].toNat : Int) == 32) = false := ne32 _ h32
            have hq' : ¬ (S[p].toNat : Int) = 32 := no32 _ h32
            clear HI hb h32
            go_wp2
            go_round
            case rel => exact ⟨p + 1, by go_num, by omega, HN⟩
            case measure => simp [intOf]; omega
        · have HN : Hid (InNum S.data.toList k (p + 1) f) := Lib.hid (HI.out.leave hk4 (fun x hx => by rw [byteNo S p hlt] at hx; cases hx))
          clear HI
          go_wp2
          go_loopw [5] (fun vp wr => ∃ (p : Nat) (f : Nat → Int), vp = .int .i64 p ∧ p ≤ 1000 * (k + 1) + 500 ∧ Hid (Mem w wr f) ∧ Hid (InNum S.data.toList k p f)) (fun vp _ => 10000 - (intOf vp).toNat)
          case atStart => exact ⟨p + 1, f, by go_num, by omega, HM, HN⟩
          case round =>
            clear HM HN
            obtain ⟨q, g, rfl, hq, HM, HN⟩ := hrel
            have hc := HM.out.nums.at hk4
            have hf := HM.out.nums.free k
            by_cases hlt : q < S.size
            · have hb := byteAt S q hlt
              by_cases h32 : S[q] = 32
              · have HE : Hid (AtName S.data.toList (k + 1) (q + 1) g) := Lib.hid (HN.out.leave (.inl (fun x hx => by rw [hb] at hx; cases hx; exact h32)))
                have hq2 : (S[q].toNat : Int) = 32 := is32 _ h32
                clear HN hb h32
                go_wp2
                go_roundw
                case rel => exact ⟨q + 1, k + 1, g, by go_num, by go_num, by omega, by omega, HM, HE⟩
                case measure => simp [intOf]; omega
              · have hq2 : ((S[q].toNat : Int) == 32) = false := ne32 _ h32
                have hq2' : ¬ (S[q].toNat : Int) = 32 := no32 _ h32
                by_cases hbig : g k < 10000
                · have HX := Lib.hid (fun v => HN.out.next (v := v) hb h32)
                  generalize hx : S[q] = x at *
                  clear HN hb h32
                  generalize g k = gk at *
                  go_wp2
                  go_region
                  all_goals
                    go_wp2
                    go_roundw
                    case rel => exact ⟨q + 1, setF g k (stepV gk x), by go_num, by omega, Lib.hid (HM.out.set hk4 _).drew, Lib.hid (HX.out _ (fun h1 h2 => stepV_small gk x h1 h2))⟩
                    case measure => simp [intOf]; omega
                · have HE : Hid (AtName S.data.toList (k + 1) (q + 1) g) := Lib.hid (HN.out.leave (.inr (by omega)))
                  clear HN hb h32
                  generalize g k = gk at *
                  go_wp2
                  go_roundw
                  case rel => exact ⟨q + 1, k + 1, g, by go_num, by go_num, by omega, by omega, HM, HE⟩
                  case measure => simp [intOf]; omega
            · have HE : Hid (AtName S.data.toList (k + 1) (q + 1) g) := Lib.hid (HN.out.leave (.inl (fun x hx => by rw [byteNo S q hlt] at hx; cases hx)))
              clear HN
              go_wp2
              go_roundw
              case rel => exact ⟨q + 1, k + 1, g, by go_num, by go_num, by omega, by omega, HM, HE⟩
              case measure => simp [intOf]; omega
    · obtain rfl : k = 4 := by omega
      have HT : Hid (∀ a b c d, IsText S.data.toList a b c d → f 0 = a ∧ f 1 = b ∧ f 2 = c ∧ f 3 = d) := Lib.hid (fun a b c d h => by
        have := (HA.out a b c d h).2
        exact ⟨this 0 (by omega), this 1 (by omega), this 2 (by omega), this 3 (by omega)⟩)
      have c0 := HM.out.nums.at (k := 0) (by omega); have c1 := HM.out.nums.at (k := 1) (by omega); have c2 := HM.out.nums.at (k := 2) (by omega); have c3 := HM.out.nums.at (k := 3) (by omega)
      have HX := Lib.hid HM.out.res; have HB := Lib.hid HM.out.old
      clear HM HA H0 A0
      generalize f 0 = a at *
      generalize f 1 = b at *
      generalize f 2 = c at *
      generalize f 3 = d at *
      have HY : Hid (Arr4 (wr.alloc (.cells #[.int .i64 a, .int .i64 b, .int .i64 c, .int .i64 d] 23)) w.heap.size 23 0 0 0 0) := Lib.hid (HX.out.other (Below.heap_alloc _ _ _ HX.out.lt))
      have HZ : Hid (Arr4 (wr.alloc (.cells #[.int .i64 a, .int .i64 b, .int .i64 c, .int .i64 d] 23)) wr.heap.size 23 a b c d) := Lib.hid (by unfold Arr4 World.alloc; exact Array.getElem?_push_size)
      have HB1 := Lib.hid (below_on HB.out (.cells #[.int .i64 a, .int .i64 b, .int .i64 c, .int .i64 d] 23))
      clear HX HB
      by_cases hr : Right a b c d
      · have HR := Lib.hid (refRight_right a b c d hr)
        have HX := Lib.hid (refText_right a b c d hr)
        generalize hl : textC a b c d = l at HX
        by_cases he : l = S.data.toList
        · have HI : Hid (IsText S.data.toList a b c d) := Lib.hid ⟨hr, by rw [hl, he]⟩
          obtain rfl : S = ⟨l.toArray⟩ := by rw [he]
          clear he hl hr HT
          go_wp2_with fail
          refine (HR.out _).mono ?_
          rintro e W1 ⟨rfl, hW1⟩
          have HY1 := Lib.hid (HY.out.other (hW1.block _ HY.out.lt)); have HZ1 := Lib.hid (HZ.out.other (hW1.block _ HZ.out.lt))
          have HB2 := Lib.hid (belowOn HB1.out hW1)
          obtain ⟨z0, z1, z2, z3, zf⟩ := HZ1.out.cells
          clear hW1 HY HZ HB1 HR
          go_wp2_with fail
          refine (HX.out _).mono ?_
          rintro e W2 ⟨rfl, hW2⟩
          have HY2 := Lib.hid (HY1.out.other (hW2.block _ HY1.out.lt)); have HZ2 := Lib.hid (HZ1.out.other (hW2.block _ HZ1.out.lt))
          have HB3 := Lib.hid (belowOn HB2.out hW2)
          clear z0 z1 z2 z3 zf
          obtain ⟨z0, z1, z2, z3, zf⟩ := HZ2.out.cells
          obtain ⟨r0, r1, r2, r3, rf⟩ := HY2.out.cells
          obtain ⟨s0, s1, s2, s3, _⟩ := (HY2.out.set4 a b c d).cells
          clear hW2 HY1 HZ1 HB2 HX
          go_wp2_with fail
          refine bodyPost_ret (v := .tuple #[.agg #[.int .i64 a, .int .i64 b, .int .i64 c, .int .i64 d], .int .i64 0]) (by simp [results, Tryd.f18, go_sem, s0, s1, s2, s3]) rfl ?_
          exact ⟨below_set4 HB3.out _ _ _ _, a, b, c, d, 0, rfl, .inl ⟨HI.out, rfl⟩⟩
        · have HN : Hid (∀ a b c d, ¬ IsText S.data.toList a b c d) := Lib.hid (fun a' b' c' d' h => by
            obtain ⟨rfl, rfl, rfl, rfl⟩ := HT.out a' b' c' d' h
            exact he (by rw [h.2, hl]))
          have hq : (l == S.toList) = false := by rw [ByteArray.toList_eq]; simpa using he
          clear he hl hr HT
          go_wp2_with fail
          refine (HR.out _).mono ?_
          rintro e W1 ⟨rfl, hW1⟩
          have HY1 := Lib.hid (HY.out.other (hW1.block _ HY.out.lt)); have HZ1 := Lib.hid (HZ.out.other (hW1.block _ HZ.out.lt))
          have HB2 := Lib.hid (belowOn HB1.out hW1)
          obtain ⟨z0, z1, z2, z3, zf⟩ := HZ1.out.cells
          clear hW1 HY HZ HB1 HR
          go_wp2_with fail
          refine (HX.out _).mono ?_
          rintro e W2 ⟨rfl, hW2⟩
          have HY2 := Lib.hid (HY1.out.other (hW2.block _ HY1.out.lt))
          have HB3 := Lib.hid (belowOn HB2.out hW2)
          clear z0 z1 z2 z3 zf
          obtain ⟨r0, r1, r2, r3, rf⟩ := HY2.out.cells
          obtain ⟨s0, s1, s2, s3, _⟩ := (HY2.out.set4 0 0 0 0).cells
          clear hW2 HY1 HZ1 HB2 HX
          go_wp2_with fail
          refine bodyPost_ret (v := .tuple #[.agg #[.int .i64 0, .int .i64 0, .int .i64 0, .int .i64 0], .int .i64 3]) (by simp [results, Tryd.f18, go_sem, s0, s1, s2, s3]) rfl ?_
          exact ⟨below_set4 HB3.out _ _ _ _, 0, 0, 0, 0, 3, rfl, .inr ⟨HN.out, rfl, rfl, rfl, rfl, rfl⟩⟩
      · have HR := Lib.hid (refRight_wrong a b c d hr)
        have HN : Hid (∀ a b c d, ¬ IsText S.data.toList a b c d) := Lib.hid (fun a' b' c' d' h => by
          obtain ⟨rfl, rfl, rfl, rfl⟩ := HT.out a' b' c' d' h
          exact hr h.1)
        clear hr HT
        go_wp2_with fail
        refine (HR.out _).mono ?_
        rintro e W1 ⟨rfl, hW1⟩
        have HY1 := Lib.hid (HY.out.other (hW1.block _ HY.out.lt))
        have HB2 := Lib.hid (belowOn HB1.out hW1)
        obtain ⟨r0, r1, r2, r3, rf⟩ := HY1.out.cells
        obtain ⟨s0, s1, s2, s3, _⟩ := (HY1.out.set4 0 0 0 0).cells
        clear hW1 HY HZ HB1 HR
        go_wp2_with fail
        refine bodyPost_ret (v := .tuple #[.agg #[.int .i64 0, .int .i64 0, .int .i64 0, .int .i64 0], .int .i64 3]) (by simp [results, Tryd.f18, go_sem, s0, s1, s2, s3]) rfl ?_
        exact ⟨below_set4 HB2.out _ _ _ _, 0, 0, 0, 0, 3, rfl, .inr ⟨HN.out, rfl, rfl, rfl, rfl, rfl⟩⟩
end Go.Proofs.YtiifeocfphojaaaDoor
