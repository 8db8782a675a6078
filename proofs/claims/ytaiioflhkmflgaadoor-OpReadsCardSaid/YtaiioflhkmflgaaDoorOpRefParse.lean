/- The document's Parse, walked: for every text of at most 200 bytes the operation whose text it is, or the error's number 3 and no operation. -/
import Derived.Test.YtaiioflhkmflgaaDoorOpSpot
import Derived.Deep.CutBlock
namespace Go.Proofs.YtaiioflhkmflgaaDoor
open Go Go.RowKit
set_option maxRecDepth 100000
attribute [local go_sem ↓] Go.wp_at_zero Go.wp_at_succ

/-- Four numbers lie in block B. -/
def ArrF (w : World) (B : Nat) (f : Nat → Int) : Prop := w.heap[B]? = some (.cells #[.int .i64 (f 0), .int .i64 (f 1), .int .i64 (f 2), .int .i64 (f 3)] 62 (0, 0))
theorem ArrF.at {w : World} {B : Nat} {f : Nat → Int} (h : ArrF w B f) {k : Nat} (hk : k < 4) : w.cell? ⟨B, k, none⟩ = some (.int .i64 (f k)) := by
  unfold ArrF at h
  obtain rfl | rfl | rfl | rfl : k = 0 ∨ k = 1 ∨ k = 2 ∨ k = 3 := by omega
  all_goals simp [World.cell?, h]
theorem ArrF.free {w : World} {B : Nat} {f : Nat → Int} (h : ArrF w B f) (j : Nat) : w.frozen? ⟨B, j, none⟩ = false := by
  unfold ArrF at h; simp [World.frozen?, h]
theorem ArrF.set {w : World} {B : Nat} {f : Nat → Int} (h : ArrF w B f) {k : Nat} (hk : k < 4) (v : Int) : ArrF (w.setCell ⟨B, k, none⟩ (.int .i64 v)) B (setF f k v) := by
  unfold ArrF at *
  obtain rfl | rfl | rfl | rfl : k = 0 ∨ k = 1 ∨ k = 2 ∨ k = 3 := by omega
  all_goals simp [World.setCell, Array.getElem?_modify, h, setF]
/-- The memory of the document's Parse: its answer's place, the numbers, and what was there. -/
structure Mem (w wr : World) (f : Nat → Int) : Prop where
  res : Arr4 wr w.heap.size 25 0 0 0 0
  nums : ArrF wr (w.heap.size + 1) f
  old : Below w.heap.size w wr
theorem Mem.set {w wr : World} {f : Nat → Int} (h : Mem w wr f) {k : Nat} (hk : k < 4) (v : Int) : Mem w (wr.setCell ⟨w.heap.size + 1, k, none⟩ (.int .i64 v)) (setF f k v) :=
  ⟨h.res.other (Below.heap_setCell wr _ _ _ (by simp)), h.nums.set hk v, h.old.setCell (p := ⟨w.heap.size + 1, k, none⟩) (by simp only; omega) _⟩
theorem Mem.drew {w wr : World} {f : Nat → Int} (h : Mem w wr f) : Mem w wr.drew f := ⟨h.res, h.nums, h.old.drew⟩
theorem Mem.on {w wr w1 : World} {f : Nat → Int} (h : Mem w wr f) (hb : Below wr.heap.size wr w1) : Mem w w1 f :=
  ⟨h.res.below hb, (hb.block _ (Array.getElem?_eq_some_iff.1 h.nums).1).trans h.nums, belowOn h.old hb⟩
theorem byteAt (S : ByteArray) (p : Nat) (h : p < S.size) : S.data.toList[p]? = some S[p] := by
  rw [List.getElem?_eq_getElem (by simpa using h)]; rfl
theorem byteNo (S : ByteArray) (p : Nat) (h : ¬ p < S.size) : S.data.toList[p]? = none := List.getElem?_eq_none (by simpa using h)
theorem is32 (x : UInt8) (h : x = 32) : (x.toNat : Int) = 32 := by rw [h]; rfl
theorem ne32 (x : UInt8) (h : x ≠ 32) : ((x.toNat : Int) == 32) = false := by
  rw [beq_eq_false_iff_ne]
  intro e
  have h1 : x.toNat = (32 : UInt8).toNat := by show x.toNat = 32; omega
  exact h (UInt8.toNat_inj.1 h1)
theorem no32 (x : UInt8) (h : x ≠ 32) : ¬ (x.toNat : Int) = 32 := beq_eq_false_iff_ne.1 (ne32 x h)
/-- What a digit makes of the number ahead of it. -/
theorem step_last (g x : Int) (hg : g = 922337203685477580) (h1 : 48 ≤ x) (h2 : x ≤ 55) : wrap64 (wrap64 (9223372036854775800 + x) - 48) = 10 * g + x - 48 := by
  subst hg
  unfold wrap64
  omega
theorem step_any (g x : Int) (h0 : 0 ≤ g) (h3 : g < 922337203685477580) (h1 : 48 ≤ x) (h2 : x ≤ 57) : wrap64 (wrap64 (wrap64 (10 * g) + x) - 48) = 10 * g + x - 48 := by
  unfold wrap64
  omega
theorem fit_last (g x : Int) (hg : g = 922337203685477580) (h1 : 48 ≤ x) (h2 : x ≤ 55) : 0 ≤ 10 * g + x - 48 ∧ 10 * g + x - 48 ≤ 9223372036854775807 := by omega
theorem fit_any (g x : Int) (h0 : 0 ≤ g) (h3 : g < 922337203685477580) (h1 : 48 ≤ x) (h2 : x ≤ 57) : 0 ≤ 10 * g + x - 48 ∧ 10 * g + x - 48 ≤ 9223372036854775807 := by omega
theorem lt_of_not {g : Int} (h1 : ¬ 922337203685477580 < g) (h2 : ¬ g = 922337203685477580) : g < 922337203685477580 := by omega
/-- The numbers so far are int's that aren't below 0, and those behind q are 0. -/
def Fits (q : Nat) (f : Nat → Int) : Prop := (∀ i, 0 ≤ f i ∧ f i ≤ 9223372036854775807) ∧ ∀ i, q ≤ i → f i = 0
theorem Fits.set {q : Nat} {f : Nat → Int} {v : Int} (h : Fits (q + 1) f) (hv : 0 ≤ v ∧ v ≤ 9223372036854775807) : Fits (q + 1) (setF f q v) :=
  ⟨fun i => by unfold setF; split; · exact hv
               · exact h.1 i, fun i hi => by unfold setF; rw [if_neg (by omega)]; exact h.2 i hi⟩
theorem Fits.up {q : Nat} {f : Nat → Int} (h : Fits q f) : Fits (q + 1) f := ⟨h.1, fun i hi => h.2 i (by omega)⟩
/-- The last part: which kind it is. -/
def rp0 (w : World) : World := (w.alloc (.cells #[.int .i64 0, .int .i64 0, .int .i64 0, .int .i64 0] 25)).alloc (.cells #[.int .i64 0, .int .i64 0, .int .i64 0, .int .i64 0] 62)
theorem Mem.first (w : World) : Mem w (rp0 w) (fun _ => 0) := by
  unfold rp0
  refine ⟨(Arr4.new w _ 0 0 0 0).below (below_new _ _), ?_, below_on (below_new _ _) _⟩
  have := Arr4.new (w.alloc (.cells #[.int .i64 0, .int .i64 0, .int .i64 0, .int .i64 0] 25)) 62 0 0 0 0
  rw [show (w.alloc (.cells #[.int .i64 0, .int .i64 0, .int .i64 0, .int .i64 0] 25)).heap.size = w.heap.size + 1 by simp] at this
  exact this
set_option maxHeartbeats 12800000 in
theorem refParse_c (S : ByteArray) (hs : S.size ≤ 200) (w : World) : Calls Tryd.prog 20 #[.string S] w (ParsePost w S) := by
  have H0 := Lib.hid (Mem.first w)
  unfold rp0 at H0
  have A0 := Lib.hid (InName.start S.data.toList)
  have hszl : S.data.toList.length = S.size := by simp
  have HSZ := Lib.hid hszl
  clear hszl
  go_enter Tryd.func20, Tryd.ntmps20
  go_upto_block 0 with fail
  go_cut [5] from 10 to 21 (fun vp wc => ∃ p : Nat, vp = .int .i64 p ∧ p ≤ S.size ∧ Hid (AtNum S.data.toList 0 p (fun _ => 0)) ∧ Hid (Mem w wc (fun _ => 0)))
  case first =>
    go_wp2_with fail
    go_loop [5] (fun vp => ∃ p : Nat, vp = .int .i64 p ∧ p ≤ S.size ∧ Hid (InName S.data.toList p)) (fun vp => S.size - (intOf vp).toNat)
    case atStart => exact ⟨0, rfl, by omega, A0⟩
    case round =>
      clear A0
      obtain ⟨p, rfl, hp, HI⟩ := hrel
      by_cases hlt : p < S.size
      · by_cases h32 : S[p] = 32
        · have HA : Hid (AtNum S.data.toList 0 p (fun _ => 0)) := Lib.hid (HI.out.leave (fun x hx => by rw [byteAt S p hlt] at hx; cases hx; exact h32))
          have hq : (S[p].toNat : Int) = 32 := is32 _ h32
          clear HI h32
          go_wp2_with fail
          go_meet
          case rel => exact ⟨p, rfl, hp, HA, H0⟩
        · have HN : Hid (InName S.data.toList (p + 1)) := Lib.hid (HI.out.next (byteAt S p hlt) h32)
          have hq : ((S[p].toNat : Int) == 32) = false := ne32 _ h32
          have hq' : ¬ (S[p].toNat : Int) = 32 := no32 _ h32
          clear HI h32
          go_wp2_with fail
          go_round
          case rel => exact ⟨p + 1, by go_num, by omega, HN⟩
          case measure => simp [intOf]; omega
      · have HA : Hid (AtNum S.data.toList 0 p (fun _ => 0)) := Lib.hid (HI.out.leave (fun x hx => by rw [byteNo S p hlt] at hx; cases hx))
        clear HI
        go_wp2_with fail
        go_meet
        case rel => exact ⟨p, rfl, hp, HA, H0⟩
  case rest =>
    clear H0 A0
    obtain ⟨p0, rfl, hp0, HA0, HM0⟩ := hcut
    go_upto_block 2 with fail
    go_cut [5, 6, 7] from 22 to 92 (fun _ _ _ wc => ∃ f : Nat → Int, Hid (Mem w wc f) ∧ Hid (∀ i, 0 ≤ f i ∧ f i ≤ 9223372036854775807) ∧ Hid (∀ k a b c, IsText S.data.toList k a b c → f 0 = a ∧ f 1 = b ∧ f 2 = c))
    case first =>
      go_wp2_with fail
      go_loopw [5, 6, 7] (fun vp vq _ wr => ∃ (p q : Nat) (f : Nat → Int), vp = .int .i64 p ∧ vq = .int .i64 q ∧ p ≤ S.size ∧ q ≤ 4 ∧ Hid (Mem w wr f) ∧ Hid (Fits q f) ∧ Hid (AtNum S.data.toList q p f)) (fun _ vq _ _ => 4 - (intOf vq).toNat)
      case atStart => exact ⟨p0, 0, _, rfl, rfl, hp0, by omega, HM0, Lib.hid ⟨fun _ => ⟨by simp, by simp⟩, fun _ _ => rfl⟩, HA0⟩
      case round =>
        clear HA0 HM0
        obtain ⟨p, q, f, rfl, rfl, hp, hq, HM, HF, HA⟩ := hrel
        by_cases hlt : p < S.size
        · by_cases hq4 : q < 4
          · have HI : Hid (InNum S.data.toList q (p + 1) 0 f) := Lib.hid (HA.out.enter (byteAt S p hlt) (HF.out.2 q (Nat.le_refl _)))
            have HF1 := Lib.hid HF.out.up
            have hqi : (q : Int) < 4 := by omega
            clear HA HF
            go_wp2_with fail
            go_loopw [5] (fun vp wr => ∃ (r : Nat) (f : Nat → Int), vp = .int .i64 r ∧ p + 1 ≤ r ∧ r ≤ S.size ∧ Hid (Mem w wr f) ∧ Hid (Fits (q + 1) f) ∧ Hid (InNum S.data.toList q r (r - (p + 1)) f)) (fun vp _ => S.size - (intOf vp).toNat)
            case atStart => exact ⟨p + 1, f, by go_num, by omega, by omega, HM, HF1, by rw [Nat.sub_self]; exact HI⟩
            case round =>
              clear HM HF1 HI
              obtain ⟨r, f, rfl, hr1, hr2, HM, HF, HI⟩ := hrel
              by_cases hlt2 : r < S.size
              · have hb := byteAt S r hlt2
                by_cases h32 : S[r] = 32
                · have HE : Hid (AtNum S.data.toList (q + 1) r f) := Lib.hid (HI.out.leave (fun x hx => by rw [hb] at hx; cases hx; exact h32))
                  have hq2 : (S[r].toNat : Int) = 32 := is32 _ h32
                  clear HI hb h32
                  go_wp2_with fail
                  go_roundw
                  case rel => exact ⟨r, q + 1, f, rfl, by go_num, by omega, by omega, HM, HF, HE⟩
                  case measure => simp [intOf]; omega
                · have hq2 : ((S[r].toNat : Int) == 32) = false := ne32 _ h32
                  have hq2' : ¬ (S[r].toNat : Int) = 32 := no32 _ h32
                  have hc := HM.out.nums.at hq4
                  have hf := HM.out.nums.free q
                  by_cases ha : S[r].toNat < 48
                  · have ha' : (S[r].toNat : Int) < 48 := by omega
                    have HN : Hid (∀ k a b c, ¬ IsText S.data.toList k a b c) := Lib.hid (fun k a b c h => by
                      have := (HI.out.digit hb h32 h).1.1
                      omega)
                    obtain ⟨r0, r1, r2, r3, rf⟩ := HM.out.res.cells
                    obtain ⟨s0, s1, s2, s3, _⟩ := (HM.out.res.set4 0 0 0 0).cells
                    have HO := Lib.hid (below_set4 HM.out.old (.int .i64 0) (.int .i64 0) (.int .i64 0) (.int .i64 0))
                    clear HI HM HF hb h32
                    go_wp2_with fail
                    refine bodyPost_ret (v := .tuple #[.agg #[.int .i64 0, .int .i64 0, .int .i64 0, .int .i64 0], .int .i64 3]) (by simp [results, Tryd.f20, go_sem, s0, s1, s2, s3]) rfl ?_
                    exact ⟨HO.out, 0, 0, 0, 0, 3, rfl, .inr ⟨HN.out, rfl, rfl, rfl, rfl, rfl⟩⟩
                  · by_cases hz : 57 < S[r].toNat
                    · have ha' : ¬ (S[r].toNat : Int) < 48 := by omega
                      have hz' : (57 : Int) < (S[r].toNat : Int) := by omega
                      have HN : Hid (∀ k a b c, ¬ IsText S.data.toList k a b c) := Lib.hid (fun k a b c h => by
                        have := (HI.out.digit hb h32 h).1.2
                        omega)
                      obtain ⟨r0, r1, r2, r3, rf⟩ := HM.out.res.cells
                      obtain ⟨s0, s1, s2, s3, _⟩ := (HM.out.res.set4 0 0 0 0).cells
                      have HO := Lib.hid (below_set4 HM.out.old (.int .i64 0) (.int .i64 0) (.int .i64 0) (.int .i64 0))
                      clear HI HM HF hb h32
                      go_wp2_with fail
                      refine bodyPost_ret (v := .tuple #[.agg #[.int .i64 0, .int .i64 0, .int .i64 0, .int .i64 0], .int .i64 3]) (by simp [results, Tryd.f20, go_sem, s0, s1, s2, s3]) rfl ?_
                      exact ⟨HO.out, 0, 0, 0, 0, 3, rfl, .inr ⟨HN.out, rfl, rfl, rfl, rfl, rfl⟩⟩
                    · have ha' : ¬ (S[r].toNat : Int) < 48 := by omega
                      have hz' : ¬ (57 : Int) < (S[r].toNat : Int) := by omega
                      have hsub : ((r : Int) - ((p : Int) + 1)) = ((r - (p + 1) : Nat) : Int) := by omega
                      by_cases h18 : 18 < r - (p + 1)
                      · have h18' : (18 : Int) < (r : Int) - ((p : Int) + 1) := by omega
                        have HN : Hid (∀ k a b c, ¬ IsText S.data.toList k a b c) := Lib.hid (fun k a b c h => by
                          have := (HI.out.digit hb h32 h).2.1
                          omega)
                        obtain ⟨r0, r1, r2, r3, rf⟩ := HM.out.res.cells
                        obtain ⟨s0, s1, s2, s3, _⟩ := (HM.out.res.set4 0 0 0 0).cells
                        have HO := Lib.hid (below_set4 HM.out.old (.int .i64 0) (.int .i64 0) (.int .i64 0) (.int .i64 0))
                        clear HI HM HF hb h32
                        go_wp2_with fail
                        refine bodyPost_ret (v := .tuple #[.agg #[.int .i64 0, .int .i64 0, .int .i64 0, .int .i64 0], .int .i64 3]) (by simp [results, Tryd.f20, go_sem, s0, s1, s2, s3]) rfl ?_
                        exact ⟨HO.out, 0, 0, 0, 0, 3, rfl, .inr ⟨HN.out, rfl, rfl, rfl, rfl, rfl⟩⟩
                      · have h18' : ¬ (18 : Int) < (r : Int) - ((p : Int) + 1) := by omega
                        have h48 : (48 : Int) ≤ (S[r].toNat : Int) := Int.not_lt.1 ha'
                        by_cases hg : 922337203685477580 < f q
                        · have HN : Hid (∀ k a b c, ¬ IsText S.data.toList k a b c) := Lib.hid (fun k a b c h => by
                            have := (HI.out.digit hb h32 h).2.2.1
                            omega)
                          obtain ⟨r0, r1, r2, r3, rf⟩ := HM.out.res.cells
                          obtain ⟨s0, s1, s2, s3, _⟩ := (HM.out.res.set4 0 0 0 0).cells
                          have HO := Lib.hid (below_set4 HM.out.old (.int .i64 0) (.int .i64 0) (.int .i64 0) (.int .i64 0))
                          clear HI HM HF hb h32
                          generalize f q = g at *
                          go_wp2_with fail
                          refine bodyPost_ret (v := .tuple #[.agg #[.int .i64 0, .int .i64 0, .int .i64 0, .int .i64 0], .int .i64 3]) (by simp [results, Tryd.f20, go_sem, s0, s1, s2, s3]) rfl ?_
                          exact ⟨HO.out, 0, 0, 0, 0, 3, rfl, .inr ⟨HN.out, rfl, rfl, rfl, rfl, rfl⟩⟩
                        · by_cases he : f q = 922337203685477580
                          · have heq : (f q == 922337203685477580) = true := by simpa using he
                            by_cases h55 : 55 < S[r].toNat
                            · have h55' : (55 : Int) < (S[r].toNat : Int) := by omega
                              have HN : Hid (∀ k a b c, ¬ IsText S.data.toList k a b c) := Lib.hid (fun k a b c h => by
                                have := (HI.out.digit hb h32 h).2.2.1
                                omega)
                              obtain ⟨r0, r1, r2, r3, rf⟩ := HM.out.res.cells
                              obtain ⟨s0, s1, s2, s3, _⟩ := (HM.out.res.set4 0 0 0 0).cells
                              have HO := Lib.hid (below_set4 HM.out.old (.int .i64 0) (.int .i64 0) (.int .i64 0) (.int .i64 0))
                              clear HI HM HF hb h32
                              generalize f q = g at *
                              go_wp2_with fail
                              refine bodyPost_ret (v := .tuple #[.agg #[.int .i64 0, .int .i64 0, .int .i64 0, .int .i64 0], .int .i64 3]) (by simp [results, Tryd.f20, go_sem, s0, s1, s2, s3]) rfl ?_
                              exact ⟨HO.out, 0, 0, 0, 0, 3, rfl, .inr ⟨HN.out, rfl, rfl, rfl, rfl, rfl⟩⟩
                            · have h55' : ¬ (55 : Int) < (S[r].toNat : Int) := by omega
                              have HX := Lib.hid (fun v => HI.out.next (v := v) hb h32)
                              have hrr : r + 1 - (p + 1) = r - (p + 1) + 1 := by omega
                              rw [← hrr] at HX
                              have HV : Hid (wrap64 (wrap64 (9223372036854775800 + (S[r].toNat : Int)) - 48) = 10 * f q + (S[r].toNat : Int) - 48) := Lib.hid (step_last (f q) _ he h48 (Int.not_lt.1 h55'))
                              have HFs := Lib.hid (HF.out.set (v := wrap64 (wrap64 (9223372036854775800 + (S[r].toNat : Int)) - 48)) (by rw [HV.out]; exact fit_last (f q) _ he h48 (Int.not_lt.1 h55')))
                              generalize hx : S[r] = x at *
                              clear HI hb h32 HF
                              generalize hg0 : f q = g at *
                              go_wp2_with fail
                              go_region
                              all_goals
                                go_wp2_with fail
                                go_roundw
                                case rel => exact ⟨r + 1, _, by go_num, by omega, by omega, Lib.hid (HM.out.set hq4 _).drew, HFs, Lib.hid (HX.out _ HV.out)⟩
                                case measure => simp [intOf]; omega
                          · have heq : (f q == 922337203685477580) = false := by simpa using he
                            have HX := Lib.hid (fun v => HI.out.next (v := v) hb h32)
                            have hrr : r + 1 - (p + 1) = r - (p + 1) + 1 := by omega
                            rw [← hrr] at HX
                            have HV : Hid (wrap64 (wrap64 (wrap64 (10 * f q) + (S[r].toNat : Int)) - 48) = 10 * f q + (S[r].toNat : Int) - 48) := Lib.hid (step_any (f q) _ (HF.out.1 q).1 (lt_of_not hg he) h48 (Int.not_lt.1 hz'))
                            have HFs := Lib.hid (HF.out.set (v := wrap64 (wrap64 (wrap64 (10 * f q) + (S[r].toNat : Int)) - 48)) (by rw [HV.out]; exact fit_any (f q) _ (HF.out.1 q).1 (lt_of_not hg he) h48 (Int.not_lt.1 hz')))
                            generalize hx : S[r] = x at *
                            clear HI hb h32 HF
                            generalize hg0 : f q = g at *
                            go_wp2_with fail
                            go_region
                            all_goals
                              go_wp2_with fail
                              go_roundw
                              case rel => exact ⟨r + 1, _, by go_num, by omega, by omega, Lib.hid (HM.out.set hq4 _).drew, HFs, Lib.hid (HX.out _ HV.out)⟩
                              case measure => simp [intOf]; omega
              · have HE : Hid (AtNum S.data.toList (q + 1) r f) := Lib.hid (HI.out.leave (fun x hx => by rw [byteNo S r hlt2] at hx; cases hx))
                clear HI
                go_wp2_with fail
                go_roundw
                case rel => exact ⟨r, q + 1, f, rfl, by go_num, by omega, by omega, HM, HF, HE⟩
                case measure => simp [intOf]; omega
          · have HT : Hid (∀ k a b c, IsText S.data.toList k a b c → f 0 = a ∧ f 1 = b ∧ f 2 = c) := Lib.hid (fun k a b c h => HA.out.fin (.inr (by omega)) HF.out.2 h)
            have HFF := Lib.hid HF.out.1
            have hq4' : ¬ (q : Int) < 4 := by omega
            clear HA HF
            go_wp2_with fail
            go_meet
            case rel => exact ⟨f, HM, HFF, HT⟩
        · have HT : Hid (∀ k a b c, IsText S.data.toList k a b c → f 0 = a ∧ f 1 = b ∧ f 2 = c) := Lib.hid (fun k a b c h => HA.out.fin (.inl (by rw [HSZ.out]; omega)) HF.out.2 h)
          have HFF := Lib.hid HF.out.1
          clear HA HF
          go_wp2_with fail
          go_meet
          case rel => exact ⟨f, HM, HFF, HT⟩
    case rest =>
      clear HA0 HM0
      obtain ⟨f, HM, HFF, HT⟩ := hcut
      have HF0 := Lib.hid (HFF.out 0); have HF1 := Lib.hid (HFF.out 1); have HF2 := Lib.hid (HFF.out 2)
      obtain ⟨f0, hf0⟩ : ∃ f0, f 0 = f0 := ⟨_, rfl⟩
      obtain ⟨f1, hf1⟩ : ∃ f1, f 1 = f1 := ⟨_, rfl⟩
      obtain ⟨f2, hf2⟩ : ∃ f2, f 2 = f2 := ⟨_, rfl⟩
      have HC : Hid (∀ W, Mem w W f → W.cell? ⟨w.heap.size + 1, 0, none⟩ = some (.int .i64 f0) ∧ W.cell? ⟨w.heap.size + 1, 1, none⟩ = some (.int .i64 f1) ∧ W.cell? ⟨w.heap.size + 1, 2, none⟩ = some (.int .i64 f2)) := Lib.hid (fun W h => by
        have c0 := h.nums.at (k := 0) (by omega); have c1 := h.nums.at (k := 1) (by omega); have c2 := h.nums.at (k := 2) (by omega)
        rw [hf0] at c0; rw [hf1] at c1; rw [hf2] at c2
        exact ⟨c0, c1, c2⟩)
      rw [hf0] at HF0 HT; rw [hf1] at HF1 HT; rw [hf2] at HF2 HT
      clear HFF hf0 hf1 hf2 HSZ
      go_wp2_with fail
      go_loopw [8, 9] (fun vk _ wr => ∃ j : Nat, vk = .int .i64 j ∧ 1 ≤ j ∧ j ≤ 12 ∧ Hid (Mem w wr f) ∧ Hid (∀ m : Nat, 1 ≤ m → m < j → ¬ IsText S.data.toList m f0 f1 f2)) (fun vk _ _ => 12 - (intOf vk).toNat)
      case atStart => exact ⟨1, rfl, by omega, by omega, HM, Lib.hid (fun m h1 h2 => by omega)⟩
      case round =>
        clear HM
        obtain ⟨j, rfl, hj1, hj2, HM, HI⟩ := hrel
        by_cases hlt : j < 12
        · have hj : (j : Int) ≤ 11 := by omega
          obtain ⟨c0, c1, c2⟩ := HC.out _ HM.out
          have HMx := Lib.hid ((HM.out.on (below_new wr (.cells #[.int .i64 (j : Int), .int .i64 f0, .int .i64 f1, .int .i64 f2] 25))).drew)
          have HBX := Lib.hid (BoxAt.new wr (j : Int) f0 f1 f2 25)
          have HTx := Lib.hid (opRefText_c (j : Int) f0 f1 f2 ⟨by have := HF0.out; omega, HF0.out.2⟩ ⟨by have := HF1.out; omega, HF1.out.2⟩ ⟨by have := HF2.out; omega, HF2.out.2⟩)
          have HPl := Lib.hid (refPlain_c (j : Int) f0 f1 f2)
          have HIY : Hid (textF j f0 f1 f2 = S.data.toList → plB j f1 = f1 → plC j f2 = f2 → IsText S.data.toList j f0 f1 f2) := Lib.hid (fun e e1 e2 => by
            have hk : okT (j : Int) f0 f1 f2 := ⟨⟨by omega, by omega⟩, fun p hp => by
              unfold nums numsH at hp
              obtain ⟨i, _, rfl⟩ := List.mem_map.1 hp
              simp only
              unfold numF
              split
              · exact HF0.out.1
              · exact HF1.out.1
              · exact HF2.out.1⟩
            unfold textF at e
            rw [if_pos hk] at e
            exact ⟨hk.1, ⟨HF0.out.1, by have := HF0.out; unfold inI; omega⟩, ⟨HF1.out.1, by have := HF1.out; unfold inI; omega⟩, ⟨HF2.out.1, by have := HF2.out; unfold inI; omega⟩, e1, e2, e.symm⟩)
          have HIN : Hid ((¬ IsText S.data.toList j f0 f1 f2) → ∀ m : Nat, 1 ≤ m → m < j + 1 → ¬ IsText S.data.toList m f0 f1 f2) := Lib.hid (fun h m h1 h2 => by
            by_cases e : m < j
            · exact HI.out m h1 e
            · obtain rfl : m = j := by omega
              exact h)
          have HNT : Hid (IsText S.data.toList j f0 f1 f2 → textF j f0 f1 f2 = S.data.toList ∧ plB j f1 = f1 ∧ plC j f2 = f2) := Lib.hid (fun h => ⟨h.eq.symm, h.pb, h.pc⟩)
          clear HI HC HT HF0 HF1 HF2
          generalize textF j f0 f1 f2 = l at *
          generalize plB j f1 = pb at *
          generalize plC j f2 = pc at *
          have hlw : w.heap.size < wr.heap.size := HM.out.res.lt
          have hne : w.heap.size ≠ wr.heap.size := by omega
          clear HM
          go_wp2_with fail
          generalize wr.alloc (.cells #[.int .i64 (j : Int), .int .i64 f0, .int .i64 f1, .int .i64 f2] 25) = U at *
          by_cases he : l = S.data.toList
          · have HE : Hid (S = ⟨l.toArray⟩) := Lib.hid (by rw [he])
            rw [← HE.out] at HTx
            by_cases hb : pb = f1
            · by_cases hc : pc = f2
              · have HIS := Lib.hid (HIY.out he hb hc)
                obtain rfl : f1 = pb := hb.symm
                obtain rfl : f2 = pc := hc.symm
                clear he HIN HNT HIY HE c0 c1 c2
                refine wp_region_held_drew (S := fun W' => BoxAt W' wr.heap.size (j : Int) f0 f1 f2) (by kernel_rfl) ?_ (fun hHeld => ?_)
                · exact HBX.out
                refine wpAnyH_take (i := 0) (oi := { dst := some 105, op := Op.load 25 (Operand.tmp 9), type := 25, pos := "ref.go:152", after := #[], guard := none }) (v := ?vrA0) rfl (by kernel_rfl) (by kernel_rfl) (by kernel_rfl) (fun _ _ _ h => h) (Or.inl ⟨by rfl, ?hyrA0⟩) hHeld ?_
                case hyrA0 => (intro w hSw; (try dsimp only at hSw); go_simp; (try with_reducible rfl))
                try simp only [Act.put, List.setIfInBounds_toArray, List.set_cons_zero, List.set_cons_succ]
                refine wpAnyH_take (i := 2) (oi := { dst := some 107, op := Op.move (Operand.tmp 0), type := 9, pos := "ref.go:152", after := #[], guard := none }) (v := ?vrA2) rfl (by kernel_rfl) (by kernel_rfl) (by kernel_rfl) (fun _ _ _ h => h) (Or.inl ⟨by rfl, ?hyrA2⟩) hHeld ?_
                case hyrA2 => (intro w hSw; (try dsimp only at hSw); go_simp; (try with_reducible rfl))
                try simp only [Act.put, List.setIfInBounds_toArray, List.set_cons_zero, List.set_cons_succ]
                refine wpAnyH_ready (rs := [1]) (by kernel_rfl) (by simp) ?_
                refine AllReadyH.cons (o := { dst := some 106, op := Op.call { callee := Callee.value (Operand.func 18), args := #[Operand.tmp 105], argTypes := #[25] }, type := 9, pos := "ref.go:152", after := #[{ on := 0, ground := Ground.data }], guard := none }) rfl (fun K hK => ?_) AllReadyH.nil
                go_simp
                refine (HTx.out _).mono ?_
                rintro e w1 ⟨rfl, hW⟩
                have hb1 := BoxAt.below (a := (j : Int)) (b := f0) (c := f1) (d := f2) (B := wr.heap.size) (by assumption) hW
                have HM1 := Lib.hid (HMx.out.on hW)
                clear hW
                refine hK.out _ _ ?_ (fun hHeld => ?_)
                · exact hb1
                clear hK K
                try simp only [Act.put, List.setIfInBounds_toArray, List.set_cons_zero, List.set_cons_succ]
                refine wpAnyH_take (i := 3) (oi := { dst := some 108, op := Op.binOp BinOp.eql 9 (Operand.tmp 106) (Operand.tmp 107) 9, type := 4, pos := "ref.go:152", after := #[{ on := 1, ground := Ground.data }, { on := 2, ground := Ground.data }], guard := none }) (v := ?vrA3) rfl (by kernel_rfl) (by kernel_rfl) (by kernel_rfl) (fun _ _ _ h => h) (Or.inl ⟨by rfl, ?hyrA3⟩) hHeld ?_
                case hyrA3 => (intro w hSw; (try dsimp only at hSw); go_simp; (try with_reducible rfl))
                try simp only [Act.put, List.setIfInBounds_toArray, List.set_cons_zero, List.set_cons_succ]
                refine wpAnyH_take (i := 4) (oi := { dst := some 109, op := Op.move (Operand.tmp 108), type := 4, pos := "ref.go:152", after := #[{ on := 3, ground := Ground.data }, { on := 1, ground := Ground.chain }], guard := none }) (v := ?vrA4) rfl (by kernel_rfl) (by kernel_rfl) (by kernel_rfl) (fun _ _ _ h => h) (Or.inl ⟨by rfl, ?hyrA4⟩) hHeld ?_
                case hyrA4 => (intro w hSw; (try dsimp only at hSw); go_simp; (try with_reducible rfl))
                try simp only [Act.put, List.setIfInBounds_toArray, List.set_cons_zero, List.set_cons_succ]
                refine wpAnyH_take (i := 5) (oi := { dst := some 110, op := Op.load 25 (Operand.tmp 9), type := 25, pos := "ref.go:152", after := #[{ on := 4, ground := Ground.guard }], guard := some (4, true) }) (v := ?vrA5) rfl (by kernel_rfl) (by kernel_rfl) (by kernel_rfl) (fun _ _ _ h => h) (Or.inl ⟨by rfl, ?hyrA5⟩) hHeld ?_
                case hyrA5 => (intro w hSw; (try dsimp only at hSw); go_simp; (try with_reducible rfl))
                try simp only [Act.put, List.setIfInBounds_toArray, List.set_cons_zero, List.set_cons_succ]
                refine wpAnyH_take (i := 7) (oi := { dst := some 112, op := Op.load 25 (Operand.tmp 9), type := 25, pos := "ref.go:152", after := #[{ on := 4, ground := Ground.guard }], guard := some (4, true) }) (v := ?vrA7) rfl (by kernel_rfl) (by kernel_rfl) (by kernel_rfl) (fun _ _ _ h => h) (Or.inl ⟨by rfl, ?hyrA7⟩) hHeld ?_
                case hyrA7 => (intro w hSw; (try dsimp only at hSw); go_simp; (try with_reducible rfl))
                try simp only [Act.put, List.setIfInBounds_toArray, List.set_cons_zero, List.set_cons_succ]
                refine wpAnyH_ready (rs := [6]) (by kernel_rfl) (by simp) ?_
                refine AllReadyH.cons (o := { dst := some 111, op := Op.call { callee := Callee.value (Operand.func 19), args := #[Operand.tmp 110], argTypes := #[25] }, type := 25, pos := "ref.go:152", after := #[{ on := 5, ground := Ground.data }, { on := 4, ground := Ground.chain }, { on := 4, ground := Ground.guard }], guard := some (4, true) }) rfl (fun K hK => ?_) AllReadyH.nil
                go_simp
                refine (HPl.out _).mono ?_
                rintro e w2 ⟨rfl, hW⟩
                have hb2 := BoxAt.below (a := (j : Int)) (b := f0) (c := f1) (d := f2) (B := wr.heap.size) (by assumption) hW
                have HM2 := Lib.hid (HM1.out.on hW)
                clear hW
                refine hK.out _ _ ?_ (fun hHeld => ?_)
                · exact hb2
                clear hK K
                try simp only [Act.put, List.setIfInBounds_toArray, List.set_cons_zero, List.set_cons_succ]
                refine wpAnyH_take (i := 8) (oi := { dst := some 113, op := Op.binOp BinOp.eql 25 (Operand.tmp 111) (Operand.tmp 112) 25, type := 4, pos := "ref.go:152", after := #[{ on := 6, ground := Ground.data }, { on := 7, ground := Ground.data }, { on := 4, ground := Ground.guard }], guard := some (4, true) }) (v := ?vrA8) rfl (by kernel_rfl) (by kernel_rfl) (by kernel_rfl) (fun _ _ _ h => h) (Or.inl ⟨by rfl, ?hyrA8⟩) hHeld ?_
                case hyrA8 => (intro w hSw; (try dsimp only at hSw); go_simp; (try with_reducible rfl))
                try simp only [Act.put, List.setIfInBounds_toArray, List.set_cons_zero, List.set_cons_succ]
                refine wpAnyH_take (i := 9) (oi := { dst := some 114, op := Op.pick (Operand.tmp 109) (Operand.tmp 113) (Operand.const (Value.bool false)), type := 4, pos := "ref.go:152", after := #[{ on := 4, ground := Ground.data }, { on := 8, ground := Ground.data }], guard := none }) (v := ?vrA9) rfl (by kernel_rfl) (by kernel_rfl) (by kernel_rfl) (fun _ _ _ h => h) (Or.inl ⟨by rfl, ?hyrA9⟩) hHeld ?_
                case hyrA9 => (intro w hSw; (try dsimp only at hSw); go_simp; (try with_reducible rfl))
                try simp only [Act.put, List.setIfInBounds_toArray, List.set_cons_zero, List.set_cons_succ]
                refine wpAnyH_done (by kernel_rfl) ?_ _
                obtain ⟨b0, b1, b2, b3⟩ := hb2
                obtain ⟨r0, r1, r2, r3, rf⟩ := HM2.out.res.cells
                obtain ⟨s0, s1, s2, s3, _⟩ := (HM2.out.res.set4 (j : Int) f0 f1 f2).cells
                have HO := Lib.hid (below_set4 HM2.out.old (.int .i64 (j : Int)) (.int .i64 f0) (.int .i64 f1) (.int .i64 f2))
                clear HM1 HM2 HMx HBX
                go_wp2_with fail
                refine bodyPost_ret (v := .tuple #[.agg #[.int .i64 (j : Int), .int .i64 f0, .int .i64 f1, .int .i64 f2], .int .i64 0]) (by simp [results, Tryd.f20, go_sem, s0, s1, s2, s3]) rfl ?_
                exact ⟨HO.out, j, f0, f1, f2, 0, rfl, .inl ⟨HIS.out, rfl⟩⟩
              · have HNI := Lib.hid (HIN.out (fun h => hc (HNT.out h).2.2))
                obtain rfl : f1 = pb := hb.symm
                have hq : (pc == f2) = false := by simpa using hc
                clear he HIN HNT HIY HE hc c0 c1 c2
                refine wp_region_held_drew (S := fun W' => BoxAt W' wr.heap.size (j : Int) f0 f1 f2) (by kernel_rfl) ?_ (fun hHeld => ?_)
                · exact HBX.out
                refine wpAnyH_take (i := 0) (oi := { dst := some 105, op := Op.load 25 (Operand.tmp 9), type := 25, pos := "ref.go:152", after := #[], guard := none }) (v := ?vrB0) rfl (by kernel_rfl) (by kernel_rfl) (by kernel_rfl) (fun _ _ _ h => h) (Or.inl ⟨by rfl, ?hyrB0⟩) hHeld ?_
                case hyrB0 => (intro w hSw; (try dsimp only at hSw); go_simp; (try with_reducible rfl))
                try simp only [Act.put, List.setIfInBounds_toArray, List.set_cons_zero, List.set_cons_succ]
                refine wpAnyH_take (i := 2) (oi := { dst := some 107, op := Op.move (Operand.tmp 0), type := 9, pos := "ref.go:152", after := #[], guard := none }) (v := ?vrB2) rfl (by kernel_rfl) (by kernel_rfl) (by kernel_rfl) (fun _ _ _ h => h) (Or.inl ⟨by rfl, ?hyrB2⟩) hHeld ?_
                case hyrB2 => (intro w hSw; (try dsimp only at hSw); go_simp; (try with_reducible rfl))
                try simp only [Act.put, List.setIfInBounds_toArray, List.set_cons_zero, List.set_cons_succ]
                refine wpAnyH_ready (rs := [1]) (by kernel_rfl) (by simp) ?_
                refine AllReadyH.cons (o := { dst := some 106, op := Op.call { callee := Callee.value (Operand.func 18), args := #[Operand.tmp 105], argTypes := #[25] }, type := 9, pos := "ref.go:152", after := #[{ on := 0, ground := Ground.data }], guard := none }) rfl (fun K hK => ?_) AllReadyH.nil
                go_simp
                refine (HTx.out _).mono ?_
                rintro e w1 ⟨rfl, hW⟩
                have hb1 := BoxAt.below (a := (j : Int)) (b := f0) (c := f1) (d := f2) (B := wr.heap.size) (by assumption) hW
                have HM1 := Lib.hid (HMx.out.on hW)
                clear hW
                refine hK.out _ _ ?_ (fun hHeld => ?_)
                · exact hb1
                clear hK K
                try simp only [Act.put, List.setIfInBounds_toArray, List.set_cons_zero, List.set_cons_succ]
                refine wpAnyH_take (i := 3) (oi := { dst := some 108, op := Op.binOp BinOp.eql 9 (Operand.tmp 106) (Operand.tmp 107) 9, type := 4, pos := "ref.go:152", after := #[{ on := 1, ground := Ground.data }, { on := 2, ground := Ground.data }], guard := none }) (v := ?vrB3) rfl (by kernel_rfl) (by kernel_rfl) (by kernel_rfl) (fun _ _ _ h => h) (Or.inl ⟨by rfl, ?hyrB3⟩) hHeld ?_
                case hyrB3 => (intro w hSw; (try dsimp only at hSw); go_simp; (try with_reducible rfl))
                try simp only [Act.put, List.setIfInBounds_toArray, List.set_cons_zero, List.set_cons_succ]
                refine wpAnyH_take (i := 4) (oi := { dst := some 109, op := Op.move (Operand.tmp 108), type := 4, pos := "ref.go:152", after := #[{ on := 3, ground := Ground.data }, { on := 1, ground := Ground.chain }], guard := none }) (v := ?vrB4) rfl (by kernel_rfl) (by kernel_rfl) (by kernel_rfl) (fun _ _ _ h => h) (Or.inl ⟨by rfl, ?hyrB4⟩) hHeld ?_
                case hyrB4 => (intro w hSw; (try dsimp only at hSw); go_simp; (try with_reducible rfl))
                try simp only [Act.put, List.setIfInBounds_toArray, List.set_cons_zero, List.set_cons_succ]
                refine wpAnyH_take (i := 5) (oi := { dst := some 110, op := Op.load 25 (Operand.tmp 9), type := 25, pos := "ref.go:152", after := #[{ on := 4, ground := Ground.guard }], guard := some (4, true) }) (v := ?vrB5) rfl (by kernel_rfl) (by kernel_rfl) (by kernel_rfl) (fun _ _ _ h => h) (Or.inl ⟨by rfl, ?hyrB5⟩) hHeld ?_
                case hyrB5 => (intro w hSw; (try dsimp only at hSw); go_simp; (try with_reducible rfl))
                try simp only [Act.put, List.setIfInBounds_toArray, List.set_cons_zero, List.set_cons_succ]
                refine wpAnyH_take (i := 7) (oi := { dst := some 112, op := Op.load 25 (Operand.tmp 9), type := 25, pos := "ref.go:152", after := #[{ on := 4, ground := Ground.guard }], guard := some (4, true) }) (v := ?vrB7) rfl (by kernel_rfl) (by kernel_rfl) (by kernel_rfl) (fun _ _ _ h => h) (Or.inl ⟨by rfl, ?hyrB7⟩) hHeld ?_
                case hyrB7 => (intro w hSw; (try dsimp only at hSw); go_simp; (try with_reducible rfl))
                try simp only [Act.put, List.setIfInBounds_toArray, List.set_cons_zero, List.set_cons_succ]
                refine wpAnyH_ready (rs := [6]) (by kernel_rfl) (by simp) ?_
                refine AllReadyH.cons (o := { dst := some 111, op := Op.call { callee := Callee.value (Operand.func 19), args := #[Operand.tmp 110], argTypes := #[25] }, type := 25, pos := "ref.go:152", after := #[{ on := 5, ground := Ground.data }, { on := 4, ground := Ground.chain }, { on := 4, ground := Ground.guard }], guard := some (4, true) }) rfl (fun K hK => ?_) AllReadyH.nil
                go_simp
                refine (HPl.out _).mono ?_
                rintro e w2 ⟨rfl, hW⟩
                have hb2 := BoxAt.below (a := (j : Int)) (b := f0) (c := f1) (d := f2) (B := wr.heap.size) (by assumption) hW
                have HM2 := Lib.hid (HM1.out.on hW)
                clear hW
                refine hK.out _ _ ?_ (fun hHeld => ?_)
                · exact hb2
                clear hK K
                try simp only [Act.put, List.setIfInBounds_toArray, List.set_cons_zero, List.set_cons_succ]
                refine wpAnyH_take (i := 8) (oi := { dst := some 113, op := Op.binOp BinOp.eql 25 (Operand.tmp 111) (Operand.tmp 112) 25, type := 4, pos := "ref.go:152", after := #[{ on := 6, ground := Ground.data }, { on := 7, ground := Ground.data }, { on := 4, ground := Ground.guard }], guard := some (4, true) }) (v := ?vrB8) rfl (by kernel_rfl) (by kernel_rfl) (by kernel_rfl) (fun _ _ _ h => h) (Or.inl ⟨by rfl, ?hyrB8⟩) hHeld ?_
                case hyrB8 => (intro w hSw; (try dsimp only at hSw); go_simp; (try with_reducible rfl))
                try simp only [Act.put, List.setIfInBounds_toArray, List.set_cons_zero, List.set_cons_succ]
                refine wpAnyH_take (i := 9) (oi := { dst := some 114, op := Op.pick (Operand.tmp 109) (Operand.tmp 113) (Operand.const (Value.bool false)), type := 4, pos := "ref.go:152", after := #[{ on := 4, ground := Ground.data }, { on := 8, ground := Ground.data }], guard := none }) (v := ?vrB9) rfl (by kernel_rfl) (by kernel_rfl) (by kernel_rfl) (fun _ _ _ h => h) (Or.inl ⟨by rfl, ?hyrB9⟩) hHeld ?_
                case hyrB9 => (intro w hSw; (try dsimp only at hSw); go_simp; (try with_reducible rfl))
                try simp only [Act.put, List.setIfInBounds_toArray, List.set_cons_zero, List.set_cons_succ]
                refine wpAnyH_done (by kernel_rfl) ?_ _
                clear HM1 HMx HBX hb1 hb2
                go_wp2_with fail
                go_roundw
                case rel => exact ⟨j + 1, by go_num, by omega, by omega, HM2, HNI⟩
                case measure => simp [intOf]; omega
            · have HNI := Lib.hid (HIN.out (fun h => hb (HNT.out h).2.1))
              have hq : (pb == f1) = false := by simpa using hb
              clear he HIN HNT HIY HE hb c0 c1 c2
              refine wp_region_held_drew (S := fun W' => BoxAt W' wr.heap.size (j : Int) f0 f1 f2) (by kernel_rfl) ?_ (fun hHeld => ?_)
              · exact HBX.out
              refine wpAnyH_take (i := 0) (oi := { dst := some 105, op := Op.load 25 (Operand.tmp 9), type := 25, pos := "ref.go:152", after := #[], guard := none }) (v := ?vrD0) rfl (by kernel_rfl) (by kernel_rfl) (by kernel_rfl) (fun _ _ _ h => h) (Or.inl ⟨by rfl, ?hyrD0⟩) hHeld ?_
              case hyrD0 => (intro w hSw; (try dsimp only at hSw); go_simp; (try with_reducible rfl))
              try simp only [Act.put, List.setIfInBounds_toArray, List.set_cons_zero, List.set_cons_succ]
              refine wpAnyH_take (i := 2) (oi := { dst := some 107, op := Op.move (Operand.tmp 0), type := 9, pos := "ref.go:152", after := #[], guard := none }) (v := ?vrD2) rfl (by kernel_rfl) (by kernel_rfl) (by kernel_rfl) (fun _ _ _ h => h) (Or.inl ⟨by rfl, ?hyrD2⟩) hHeld ?_
              case hyrD2 => (intro w hSw; (try dsimp only at hSw); go_simp; (try with_reducible rfl))
              try simp only [Act.put, List.setIfInBounds_toArray, List.set_cons_zero, List.set_cons_succ]
              refine wpAnyH_ready (rs := [1]) (by kernel_rfl) (by simp) ?_
              refine AllReadyH.cons (o := { dst := some 106, op := Op.call { callee := Callee.value (Operand.func 18), args := #[Operand.tmp 105], argTypes := #[25] }, type := 9, pos := "ref.go:152", after := #[{ on := 0, ground := Ground.data }], guard := none }) rfl (fun K hK => ?_) AllReadyH.nil
              go_simp
              refine (HTx.out _).mono ?_
              rintro e w1 ⟨rfl, hW⟩
              have hb1 := BoxAt.below (a := (j : Int)) (b := f0) (c := f1) (d := f2) (B := wr.heap.size) (by assumption) hW
              have HM1 := Lib.hid (HMx.out.on hW)
              clear hW
              refine hK.out _ _ ?_ (fun hHeld => ?_)
              · exact hb1
              clear hK K
              try simp only [Act.put, List.setIfInBounds_toArray, List.set_cons_zero, List.set_cons_succ]
              refine wpAnyH_take (i := 3) (oi := { dst := some 108, op := Op.binOp BinOp.eql 9 (Operand.tmp 106) (Operand.tmp 107) 9, type := 4, pos := "ref.go:152", after := #[{ on := 1, ground := Ground.data }, { on := 2, ground := Ground.data }], guard := none }) (v := ?vrD3) rfl (by kernel_rfl) (by kernel_rfl) (by kernel_rfl) (fun _ _ _ h => h) (Or.inl ⟨by rfl, ?hyrD3⟩) hHeld ?_
              case hyrD3 => (intro w hSw; (try dsimp only at hSw); go_simp; (try with_reducible rfl))
              try simp only [Act.put, List.setIfInBounds_toArray, List.set_cons_zero, List.set_cons_succ]
              refine wpAnyH_take (i := 4) (oi := { dst := some 109, op := Op.move (Operand.tmp 108), type := 4, pos := "ref.go:152", after := #[{ on := 3, ground := Ground.data }, { on := 1, ground := Ground.chain }], guard := none }) (v := ?vrD4) rfl (by kernel_rfl) (by kernel_rfl) (by kernel_rfl) (fun _ _ _ h => h) (Or.inl ⟨by rfl, ?hyrD4⟩) hHeld ?_
              case hyrD4 => (intro w hSw; (try dsimp only at hSw); go_simp; (try with_reducible rfl))
              try simp only [Act.put, List.setIfInBounds_toArray, List.set_cons_zero, List.set_cons_succ]
              refine wpAnyH_take (i := 5) (oi := { dst := some 110, op := Op.load 25 (Operand.tmp 9), type := 25, pos := "ref.go:152", after := #[{ on := 4, ground := Ground.guard }], guard := some (4, true) }) (v := ?vrD5) rfl (by kernel_rfl) (by kernel_rfl) (by kernel_rfl) (fun _ _ _ h => h) (Or.inl ⟨by rfl, ?hyrD5⟩) hHeld ?_
              case hyrD5 => (intro w hSw; (try dsimp only at hSw); go_simp; (try with_reducible rfl))
              try simp only [Act.put, List.setIfInBounds_toArray, List.set_cons_zero, List.set_cons_succ]
              refine wpAnyH_take (i := 7) (oi := { dst := some 112, op := Op.load 25 (Operand.tmp 9), type := 25, pos := "ref.go:152", after := #[{ on := 4, ground := Ground.guard }], guard := some (4, true) }) (v := ?vrD7) rfl (by kernel_rfl) (by kernel_rfl) (by kernel_rfl) (fun _ _ _ h => h) (Or.inl ⟨by rfl, ?hyrD7⟩) hHeld ?_
              case hyrD7 => (intro w hSw; (try dsimp only at hSw); go_simp; (try with_reducible rfl))
              try simp only [Act.put, List.setIfInBounds_toArray, List.set_cons_zero, List.set_cons_succ]
              refine wpAnyH_ready (rs := [6]) (by kernel_rfl) (by simp) ?_
              refine AllReadyH.cons (o := { dst := some 111, op := Op.call { callee := Callee.value (Operand.func 19), args := #[Operand.tmp 110], argTypes := #[25] }, type := 25, pos := "ref.go:152", after := #[{ on := 5, ground := Ground.data }, { on := 4, ground := Ground.chain }, { on := 4, ground := Ground.guard }], guard := some (4, true) }) rfl (fun K hK => ?_) AllReadyH.nil
              go_simp
              refine (HPl.out _).mono ?_
              rintro e w2 ⟨rfl, hW⟩
              have hb2 := BoxAt.below (a := (j : Int)) (b := f0) (c := f1) (d := f2) (B := wr.heap.size) (by assumption) hW
              have HM2 := Lib.hid (HM1.out.on hW)
              clear hW
              refine hK.out _ _ ?_ (fun hHeld => ?_)
              · exact hb2
              clear hK K
              try simp only [Act.put, List.setIfInBounds_toArray, List.set_cons_zero, List.set_cons_succ]
              refine wpAnyH_take (i := 8) (oi := { dst := some 113, op := Op.binOp BinOp.eql 25 (Operand.tmp 111) (Operand.tmp 112) 25, type := 4, pos := "ref.go:152", after := #[{ on := 6, ground := Ground.data }, { on := 7, ground := Ground.data }, { on := 4, ground := Ground.guard }], guard := some (4, true) }) (v := ?vrD8) rfl (by kernel_rfl) (by kernel_rfl) (by kernel_rfl) (fun _ _ _ h => h) (Or.inl ⟨by rfl, ?hyrD8⟩) hHeld ?_
              case hyrD8 => (intro w hSw; (try dsimp only at hSw); go_simp; (try with_reducible rfl))
              try simp only [Act.put, List.setIfInBounds_toArray, List.set_cons_zero, List.set_cons_succ]
              refine wpAnyH_take (i := 9) (oi := { dst := some 114, op := Op.pick (Operand.tmp 109) (Operand.tmp 113) (Operand.const (Value.bool false)), type := 4, pos := "ref.go:152", after := #[{ on := 4, ground := Ground.data }, { on := 8, ground := Ground.data }], guard := none }) (v := ?vrD9) rfl (by kernel_rfl) (by kernel_rfl) (by kernel_rfl) (fun _ _ _ h => h) (Or.inl ⟨by rfl, ?hyrD9⟩) hHeld ?_
              case hyrD9 => (intro w hSw; (try dsimp only at hSw); go_simp; (try with_reducible rfl))
              try simp only [Act.put, List.setIfInBounds_toArray, List.set_cons_zero, List.set_cons_succ]
              refine wpAnyH_done (by kernel_rfl) ?_ _
              clear HM1 HMx HBX hb1 hb2
              go_wp2_with fail
              go_roundw
              case rel => exact ⟨j + 1, by go_num, by omega, by omega, HM2, HNI⟩
              case measure => simp [intOf]; omega
          · have HNI := Lib.hid (HIN.out (fun h => he (HNT.out h).1))
            have hq : (l == S.toList) = false := by rw [ByteArray.toList_eq]; simpa using he
            clear he HIN HNT HIY c0 c1 c2
            refine wp_region_held_drew (S := fun W' => BoxAt W' wr.heap.size (j : Int) f0 f1 f2) (by kernel_rfl) ?_ (fun hHeld => ?_)
            · exact HBX.out
            refine wpAnyH_take (i := 0) (oi := { dst := some 105, op := Op.load 25 (Operand.tmp 9), type := 25, pos := "ref.go:152", after := #[], guard := none }) (v := ?vrC0) rfl (by kernel_rfl) (by kernel_rfl) (by kernel_rfl) (fun _ _ _ h => h) (Or.inl ⟨by rfl, ?hyrC0⟩) hHeld ?_
            case hyrC0 => (intro w hSw; (try dsimp only at hSw); go_simp; (try with_reducible rfl))
            try simp only [Act.put, List.setIfInBounds_toArray, List.set_cons_zero, List.set_cons_succ]
            refine wpAnyH_take (i := 2) (oi := { dst := some 107, op := Op.move (Operand.tmp 0), type := 9, pos := "ref.go:152", after := #[], guard := none }) (v := ?vrC2) rfl (by kernel_rfl) (by kernel_rfl) (by kernel_rfl) (fun _ _ _ h => h) (Or.inl ⟨by rfl, ?hyrC2⟩) hHeld ?_
            case hyrC2 => (intro w hSw; (try dsimp only at hSw); go_simp; (try with_reducible rfl))
            try simp only [Act.put, List.setIfInBounds_toArray, List.set_cons_zero, List.set_cons_succ]
            refine wpAnyH_ready (rs := [1]) (by kernel_rfl) (by simp) ?_
            refine AllReadyH.cons (o := { dst := some 106, op := Op.call { callee := Callee.value (Operand.func 18), args := #[Operand.tmp 105], argTypes := #[25] }, type := 9, pos := "ref.go:152", after := #[{ on := 0, ground := Ground.data }], guard := none }) rfl (fun K hK => ?_) AllReadyH.nil
            go_simp
            refine (HTx.out _).mono ?_
            rintro e w1 ⟨rfl, hW⟩
            have hb1 := BoxAt.below (a := (j : Int)) (b := f0) (c := f1) (d := f2) (B := wr.heap.size) (by assumption) hW
            have HM1 := Lib.hid (HMx.out.on hW)
            clear hW
            refine hK.out _ _ ?_ (fun hHeld => ?_)
            · exact hb1
            clear hK K
            try simp only [Act.put, List.setIfInBounds_toArray, List.set_cons_zero, List.set_cons_succ]
            refine wpAnyH_take (i := 3) (oi := { dst := some 108, op := Op.binOp BinOp.eql 9 (Operand.tmp 106) (Operand.tmp 107) 9, type := 4, pos := "ref.go:152", after := #[{ on := 1, ground := Ground.data }, { on := 2, ground := Ground.data }], guard := none }) (v := ?vrC3) rfl (by kernel_rfl) (by kernel_rfl) (by kernel_rfl) (fun _ _ _ h => h) (Or.inl ⟨by rfl, ?hyrC3⟩) hHeld ?_
            case hyrC3 => (intro w hSw; (try dsimp only at hSw); go_simp; (try with_reducible rfl))
            try simp only [Act.put, List.setIfInBounds_toArray, List.set_cons_zero, List.set_cons_succ]
            refine wpAnyH_take (i := 4) (oi := { dst := some 109, op := Op.move (Operand.tmp 108), type := 4, pos := "ref.go:152", after := #[{ on := 3, ground := Ground.data }, { on := 1, ground := Ground.chain }], guard := none }) (v := ?vrC4) rfl (by kernel_rfl) (by kernel_rfl) (by kernel_rfl) (fun _ _ _ h => h) (Or.inl ⟨by rfl, ?hyrC4⟩) hHeld ?_
            case hyrC4 => (intro w hSw; (try dsimp only at hSw); go_simp; (try with_reducible rfl))
            try simp only [Act.put, List.setIfInBounds_toArray, List.set_cons_zero, List.set_cons_succ]
            refine wpAnyH_take (i := 5) (oi := { dst := some 110, op := Op.load 25 (Operand.tmp 9), type := 25, pos := "ref.go:152", after := #[{ on := 4, ground := Ground.guard }], guard := some (4, true) }) (v := undef) rfl (by kernel_rfl) (by kernel_rfl) (by kernel_rfl) (fun _ _ _ h => h) (Or.inr ⟨by rfl, rfl⟩) hHeld ?_
            try simp only [Act.put, List.setIfInBounds_toArray, List.set_cons_zero, List.set_cons_succ]
            refine wpAnyH_take (i := 6) (oi := { dst := some 111, op := Op.call { callee := Callee.value (Operand.func 19), args := #[Operand.tmp 110], argTypes := #[25] }, type := 25, pos := "ref.go:152", after := #[{ on := 5, ground := Ground.data }, { on := 4, ground := Ground.chain }, { on := 4, ground := Ground.guard }], guard := some (4, true) }) (v := undef) rfl (by kernel_rfl) (by kernel_rfl) (by kernel_rfl) (fun _ _ _ h => h) (Or.inr ⟨by rfl, rfl⟩) hHeld ?_
            try simp only [Act.put, List.setIfInBounds_toArray, List.set_cons_zero, List.set_cons_succ]
            refine wpAnyH_take (i := 7) (oi := { dst := some 112, op := Op.load 25 (Operand.tmp 9), type := 25, pos := "ref.go:152", after := #[{ on := 4, ground := Ground.guard }], guard := some (4, true) }) (v := undef) rfl (by kernel_rfl) (by kernel_rfl) (by kernel_rfl) (fun _ _ _ h => h) (Or.inr ⟨by rfl, rfl⟩) hHeld ?_
            try simp only [Act.put, List.setIfInBounds_toArray, List.set_cons_zero, List.set_cons_succ]
            refine wpAnyH_take (i := 8) (oi := { dst := some 113, op := Op.binOp BinOp.eql 25 (Operand.tmp 111) (Operand.tmp 112) 25, type := 4, pos := "ref.go:152", after := #[{ on := 6, ground := Ground.data }, { on := 7, ground := Ground.data }, { on := 4, ground := Ground.guard }], guard := some (4, true) }) (v := undef) rfl (by kernel_rfl) (by kernel_rfl) (by kernel_rfl) (fun _ _ _ h => h) (Or.inr ⟨by rfl, rfl⟩) hHeld ?_
            try simp only [Act.put, List.setIfInBounds_toArray, List.set_cons_zero, List.set_cons_succ]
            refine wpAnyH_take (i := 9) (oi := { dst := some 114, op := Op.pick (Operand.tmp 109) (Operand.tmp 113) (Operand.const (Value.bool false)), type := 4, pos := "ref.go:152", after := #[{ on := 4, ground := Ground.data }, { on := 8, ground := Ground.data }], guard := none }) (v := ?vrC9) rfl (by kernel_rfl) (by kernel_rfl) (by kernel_rfl) (fun _ _ _ h => h) (Or.inl ⟨by rfl, ?hyrC9⟩) hHeld ?_
            case hyrC9 => (intro w hSw; (try dsimp only at hSw); go_simp; (try with_reducible rfl))
            try simp only [Act.put, List.setIfInBounds_toArray, List.set_cons_zero, List.set_cons_succ]
            refine wpAnyH_done (by kernel_rfl) ?_ _
            clear HMx HBX hb1 HPl
            go_wp2_with fail
            go_roundw
            case rel => exact ⟨j + 1, by go_num, by omega, by omega, HM1, HNI⟩
            case measure => simp [intOf]; omega
        · obtain rfl : j = 12 := by omega
          have HN : Hid (∀ k a b c, ¬ IsText S.data.toList k a b c) := Lib.hid (fun k a b c h => by
            obtain ⟨rfl, rfl, rfl⟩ := HT.out k a b c h
            obtain ⟨m, rfl, h1, h2⟩ := h.kind.nat
            exact HI.out m h1 (by omega) h)
          obtain ⟨r0, r1, r2, r3, rf⟩ := HM.out.res.cells
          obtain ⟨s0, s1, s2, s3, _⟩ := (HM.out.res.set4 0 0 0 0).cells
          have HO := Lib.hid (below_set4 HM.out.old (.int .i64 0) (.int .i64 0) (.int .i64 0) (.int .i64 0))
          clear HM HI HT HC HF0 HF1 HF2
          go_wp2_with fail
          refine bodyPost_ret (v := .tuple #[.agg #[.int .i64 0, .int .i64 0, .int .i64 0, .int .i64 0], .int .i64 3]) (by simp [results, Tryd.f20, go_sem, s0, s1, s2, s3]) rfl ?_
          exact ⟨HO.out, 0, 0, 0, 0, 3, rfl, .inr ⟨HN.out, rfl, rfl, rfl, rfl, rfl⟩⟩
end Go.Proofs.YtaiioflhkmflgaaDoor
