/- The document's Plain and Text of an operation, for every operation whose numbers are int's. -/
import Derived.Test.YtaiioflhkmflgaaDoorOpRefRegs
import Derived.Lib.Strings
namespace Go.Proofs.YtaiioflhkmflgaaDoor
open Go Go.RowKit
set_option maxRecDepth 100000
attribute [local go_sem ↓] Go.wp_at_zero Go.wp_at_succ

/-- The second and the third number, 0 where the kind hasn't one. -/
def plB (k b : Int) : Int := if codeF k.toNat 1 = 0 then 0 else b
def plC (k c : Int) : Int := if codeF k.toNat 2 = 0 then 0 else c
/-- The box, and the result. -/
structure PlnAt (w W : World) (k a b c : Int) : Prop where
  op : Arr4 W w.heap.size 25 k a b c
  res : Arr4 W (w.heap.size + 1) 25 0 0 0 0
  old : Below w.heap.size w W
theorem PlnAt.new (w : World) (k a b c : Int) : PlnAt w ((w.alloc (.cells #[.int .i64 k, .int .i64 a, .int .i64 b, .int .i64 c] 25)).alloc (.cells #[.int .i64 0, .int .i64 0, .int .i64 0, .int .i64 0] 25)) k a b c := by
  refine ⟨(Arr4.new w _ k a b c).below (below_new _ _), ?_, below_on (below_new w _) _⟩
  have := Arr4.new (w.alloc (.cells #[.int .i64 k, .int .i64 a, .int .i64 b, .int .i64 c] 25)) 25 0 0 0 0
  rw [show (w.alloc (.cells #[.int .i64 k, .int .i64 a, .int .i64 b, .int .i64 c] 25)).heap.size = w.heap.size + 1 by simp] at this
  exact this
theorem PlnAt.setB {w W : World} {k a b c : Int} (h : PlnAt w W k a b c) (u : Int) : PlnAt w (W.setCell ⟨w.heap.size, 2, none⟩ (.int .i64 u)) k a u c :=
  ⟨(h.op.set u).2.2.1, h.res.other (Below.heap_setCell W _ _ _ (by simp)), h.old.setCell (p := ⟨w.heap.size, 2, none⟩) (Nat.le_refl _) _⟩
theorem PlnAt.setC {w W : World} {k a b c : Int} (h : PlnAt w W k a b c) (u : Int) : PlnAt w (W.setCell ⟨w.heap.size, 3, none⟩ (.int .i64 u)) k a b u :=
  ⟨(h.op.set u).2.2.2, h.res.other (Below.heap_setCell W _ _ _ (by simp)), h.old.setCell (p := ⟨w.heap.size, 3, none⟩) (Nat.le_refl _) _⟩
set_option maxHeartbeats 3200000 in
theorem refPlain_c (k a b c : Int) (w : World) :
    Calls Tryd.prog 19 #[.agg #[.int .i64 k, .int .i64 a, .int .i64 b, .int .i64 c]] w fun e w' => e = .returned (.agg #[.int .i64 k, .int .i64 a, .int .i64 (plB k b), .int .i64 (plC k c)]) ∧ Below w.heap.size w w' := by
  have H0 := Lib.hid (PlnAt.new w k a b c)
  have HP1 : Hid (∀ w, Calls Tryd.prog 21 #[.int .i64 k, .int .i64 1] w fun e w' => e = .returned (.int .i64 (codeF k.toNat 1)) ∧ w = w') := Lib.hid (refPart_any k 1 (by omega))
  have HP2 : Hid (∀ w, Calls Tryd.prog 21 #[.int .i64 k, .int .i64 2] w fun e w' => e = .returned (.int .i64 (codeF k.toNat 2)) ∧ w = w') := Lib.hid (refPart_any k 2 (by omega))
  have HB : Hid (plB k b = if codeF k.toNat 1 = 0 then 0 else b) := Lib.hid rfl
  have HC : Hid (plC k c = if codeF k.toNat 2 = 0 then 0 else c) := Lib.hid rfl
  generalize codeF k.toNat 1 = c1 at *
  generalize codeF k.toNat 2 = c2 at *
  generalize plB k b = PB at *
  generalize plC k c = PC at *
  go_enter Tryd.func19, Tryd.ntmps19
  go_wp2_with fail
  refine (HP1.out _).mono ?_
  rintro e W ⟨rfl, hW⟩
  rw [hW] at H0
  clear hW HP1
  obtain ⟨W1, b1, HE, H1, hgo⟩ : ∃ (W1 : World) (b1 : Int), Hid (PB = b1) ∧ Hid (PlnAt w W1 k a b1 c) ∧ ((c1 = 0 ∧ W1 = W.setCell ⟨w.heap.size, 2, none⟩ (.int .i64 0)) ∨ (c1 ≠ 0 ∧ W1 = W)) := by
    by_cases h : c1 = 0
    · exact ⟨_, 0, Lib.hid (by rw [HB.out, if_pos h]), Lib.hid (H0.out.setB 0), .inl ⟨h, rfl⟩⟩
    · exact ⟨_, b, Lib.hid (by rw [HB.out, if_neg h]), H0, .inr ⟨h, rfl⟩⟩
  obtain ⟨r0, r1, r2, r3, rf⟩ := H0.out.op.cells
  obtain ⟨q0, q1, q2, q3, qf⟩ := H1.out.op.cells
  rcases hgo with ⟨rfl, rfl⟩ | ⟨h, rfl⟩
  · go_wp2_with fail
    refine (HP2.out _).mono ?_
    rintro e W2 ⟨rfl, hW2⟩
    rw [hW2] at H1 q0 q1 q2 q3 qf
    clear hW2 HP2 r0 r1 r2 r3 rf H0
    by_cases h2 : c2 = 0
    · subst h2
      have H2 := Lib.hid (H1.out.setC 0)
      obtain ⟨p0, p1, p2, p3, pf⟩ := H2.out.op.cells
      obtain ⟨t0, t1, t2, t3, tf⟩ := H2.out.res.cells
      obtain ⟨s0, s1, s2, s3, _⟩ := (H2.out.res.set4 k a b1 0).cells
      have hE2 : PC = 0 := by rw [HC.out]; simp
      go_wp2_with fail
      refine bodyPost_ret (v := .agg #[.int .i64 k, .int .i64 a, .int .i64 b1, .int .i64 0]) (by simp [results, Tryd.f19, go_sem, s0, s1, s2, s3]) rfl ?_
      rw [HE.out, hE2]
      exact ⟨rfl, below_far4 H2.out.old (by omega) _ _ _ _⟩
    · have hq : (c2 == 0) = false := by simpa using h2
      obtain ⟨t0, t1, t2, t3, tf⟩ := H1.out.res.cells
      obtain ⟨s0, s1, s2, s3, _⟩ := (H1.out.res.set4 k a b1 c).cells
      have hE2 : PC = c := by rw [HC.out, if_neg h2]
      go_wp2_with fail
      refine bodyPost_ret (v := .agg #[.int .i64 k, .int .i64 a, .int .i64 b1, .int .i64 c]) (by simp [results, Tryd.f19, go_sem, s0, s1, s2, s3]) rfl ?_
      rw [HE.out, hE2]
      exact ⟨rfl, below_far4 H1.out.old (by omega) _ _ _ _⟩
  · have hq1 : (c1 == 0) = false := by simpa using h
    go_wp2_with fail
    refine (HP2.out _).mono ?_
    rintro e W2 ⟨rfl, hW2⟩
    rw [hW2] at H1 q0 q1 q2 q3 qf
    clear hW2 HP2 r0 r1 r2 r3 rf H0
    by_cases h2 : c2 = 0
    · subst h2
      have H2 := Lib.hid (H1.out.setC 0)
      obtain ⟨p0, p1, p2, p3, pf⟩ := H2.out.op.cells
      obtain ⟨t0, t1, t2, t3, tf⟩ := H2.out.res.cells
      obtain ⟨s0, s1, s2, s3, _⟩ := (H2.out.res.set4 k a b1 0).cells
      have hE2 : PC = 0 := by rw [HC.out]; simp
      go_wp2_with fail
      refine bodyPost_ret (v := .agg #[.int .i64 k, .int .i64 a, .int .i64 b1, .int .i64 0]) (by simp [results, Tryd.f19, go_sem, s0, s1, s2, s3]) rfl ?_
      rw [HE.out, hE2]
      exact ⟨rfl, below_far4 H2.out.old (by omega) _ _ _ _⟩
    · have hq : (c2 == 0) = false := by simpa using h2
      obtain ⟨t0, t1, t2, t3, tf⟩ := H1.out.res.cells
      obtain ⟨s0, s1, s2, s3, _⟩ := (H1.out.res.set4 k a b1 c).cells
      have hE2 : PC = c := by rw [HC.out, if_neg h2]
      go_wp2_with fail
      refine bodyPost_ret (v := .agg #[.int .i64 k, .int .i64 a, .int .i64 b1, .int .i64 c]) (by simp [results, Tryd.f19, go_sem, s0, s1, s2, s3]) rfl ?_
      rw [HE.out, hE2]
      exact ⟨rfl, below_far4 H1.out.old (by omega) _ _ _ _⟩
/-- The document's text so far. -/
def sTo (m : Nat) (x y z : Int) : Nat → List UInt8
  | 0 => nmL m
  | i + 1 => if codeF m i = 0 then sTo m x y z i else sTo m x y z i ++ 32 :: Lib.itoa (numF x y z i)
theorem has_num {m : Nat} (h1 : 1 ≤ m) (h2 : m ≤ 11) (x y z : Int) {i : Nat} (hi : i < 3) (h : codeF m i ≠ 0) : ∃ u, (u, numF x y z i) ∈ nums m x y z := by
  obtain rfl | rfl | rfl : i = 0 ∨ i = 1 ∨ i = 2 := by omega
  all_goals
    obtain rfl | rfl | rfl | rfl | rfl | rfl | rfl | rfl | rfl | rfl | rfl := kind_cases h1 h2
    all_goals first
      | exact absurd rfl h
      | (refine ⟨114, ?_⟩; simp [nums, numsH, hsL, numF, List.range, List.range.loop]; done)
      | (refine ⟨103, ?_⟩; simp [nums, numsH, hsL, numF, List.range, List.range.loop]; done)
      | (refine ⟨107, ?_⟩; simp [nums, numsH, hsL, numF, List.range, List.range.loop]; done)
theorem num_has {m : Nat} (h1 : 1 ≤ m) (h2 : m ≤ 11) (x y z : Int) (h : ∀ i, i < 3 → codeF m i ≠ 0 → 0 ≤ numF x y z i) : ∀ p ∈ nums m x y z, 0 ≤ p.2 := by
  have g0 := h 0 (by omega); have g1 := h 1 (by omega); have g2 := h 2 (by omega)
  obtain rfl | rfl | rfl | rfl | rfl | rfl | rfl | rfl | rfl | rfl | rfl := kind_cases h1 h2
  all_goals
    simp [codeF, hsL, numF] at g0 g1 g2
    simp [nums, numsH, hsL, numF, List.range, List.range.loop]
    try omega
theorem sTo_all {m : Nat} (h1 : 1 ≤ m) (h2 : m ≤ 11) (x y z : Int) : sTo m x y z 3 = Lib.join (textL m x y z) [32] := by
  obtain rfl | rfl | rfl | rfl | rfl | rfl | rfl | rfl | rfl | rfl | rfl := kind_cases h1 h2
  all_goals
    unfold textL wordsN
    rw [Lib.join_cons]
    simp [sTo, codeF, hsL, nums, numsH, numF, List.range, List.range.loop, Lib.joinTail, nmL]
theorem sTo_ne {m : Nat} (h1 : 1 ≤ m) (h2 : m ≤ 11) (x y z : Int) (i : Nat) : sTo m x y z i ≠ [] := by
  induction i with
  | zero => exact nmL_ne h1 h2
  | succ i ih =>
    unfold sTo
    split
    · exact ih
    · simp
theorem sTo_len (m : Nat) (x y z : Int) (h : ∀ i, codeF m i ≠ 0 → 0 ≤ numF x y z i → (Lib.itoa (numF x y z i)).length ≤ 20) (i : Nat) (h0 : ∀ j, j < i → codeF m j ≠ 0 → 0 ≤ numF x y z j) : (sTo m x y z i).length ≤ 6 + 21 * i := by
  induction i with
  | zero => exact nmL_short m
  | succ i ih =>
    have ih := ih (fun j hj => h0 j (by omega))
    unfold sTo
    split
    · omega
    · rename_i hc
      have := h i hc (h0 i (by omega) hc)
      rw [List.length_append, List.length_cons]
      omega
theorem numF_in {x y z : Int} (hx : inI x) (hy : inI y) (hz : inI z) (i : Nat) : inI (numF x y z i) := by
  unfold numF
  split
  · exact hx
  · exact hy
  · exact hz
theorem refText_notKind (k x y z : Int) (hk : ¬ okK k) (w : World) :
    Calls Tryd.prog 18 #[.agg #[.int .i64 k, .int .i64 x, .int .i64 y, .int .i64 z]] w fun e w' => e = .returned (.string ⟨#[]⟩) ∧ Below w.heap.size w w' := by
  have HK := Lib.hid (refName_no k hk)
  have HB := Lib.hid (below_new w (.cells #[.int .i64 k, .int .i64 x, .int .i64 y, .int .i64 z] 25))
  clear hk
  go_enter Tryd.func18, Tryd.ntmps18
  go_wp2_with fail
  refine (HK.out _).mono ?_
  rintro e W ⟨rfl, rfl⟩
  clear HK
  go_wp2_with fail
  go_loop [3, 4] (fun v vi => v = .string ⟨#[]⟩ ∧ vi = .int .i64 0) (fun _ _ => 0)
  case atStart => exact ⟨rfl, rfl⟩
  case round =>
    obtain ⟨rfl, rfl⟩ := hrel
    go_wp2_with fail
    go_ret
    exact ⟨rfl, HB.out⟩
set_option maxHeartbeats 6400000 in
theorem refText_kind (m : Nat) (h1 : 1 ≤ m) (h2 : m ≤ 11) (x y z : Int) (hx : inI x) (hy : inI y) (hz : inI z) (w : World) :
    Calls Tryd.prog 18 #[.agg #[.int .i64 (m : Int), .int .i64 x, .int .i64 y, .int .i64 z]] w fun e w' => e = .returned (.string ⟨(textF m x y z).toArray⟩) ∧ Below w.heap.size w w' := by
  have HT1 : Hid ((∀ i, i < 3 → codeF m i ≠ 0 → 0 ≤ numF x y z i) → textF m x y z = sTo m x y z 3) := Lib.hid (fun h => by
    rw [sTo_all h1 h2]; exact if_pos ⟨⟨by omega, by omega⟩, num_has h1 h2 x y z h⟩)
  have HT2 : Hid (∀ i, i < 3 → codeF m i ≠ 0 → numF x y z i < 0 → textF m x y z = []) := Lib.hid (fun i hi hc hn => if_neg (fun h => by
    obtain ⟨u, hu⟩ := has_num h1 h2 x y z hi hc
    have := h.2 _ hu
    simp only at this
    omega))
  have HLn : Hid (∀ i, (∀ j, j < i → codeF m j ≠ 0 → 0 ≤ numF x y z j) → (sTo m x y z i).length ≤ 6 + 21 * i) := Lib.hid (fun i => sTo_len m x y z (fun j _ h0 => itoa_short _ h0 (numF_in hx hy hz j).2) i)
  have HNe : Hid (∀ i, (sTo m x y z i).isEmpty = false) := Lib.hid (fun i => by have := sTo_ne h1 h2 x y z i; simpa using this)
  have HSS : Hid (∀ i, sTo m x y z (i + 1) = if codeF m i = 0 then sTo m x y z i else sTo m x y z i ++ 32 :: Lib.itoa (numF x y z i)) := Lib.hid (fun i => rfl)
  have HI0 := Lib.hid (numF_in hx hy hz)
  have HK : Hid (∀ w, Calls Tryd.prog 13 #[.int .i64 (m : Int)] w fun e w' => e = .returned (.string ⟨(sTo m x y z 0).toArray⟩) ∧ w = w') := Lib.hid (refName_yes m h1 h2)
  have HP := Lib.hid (refPart_yes m h1 h2)
  have HM := Lib.hid (refNumber_c (m : Int) x y z)
  have HD := Lib.hid refDigits_c
  have H0 := Lib.hid (Arr4.new w 25 m x y z)
  have HB := Lib.hid (below_new w (.cells #[.int .i64 (m : Int), .int .i64 x, .int .i64 y, .int .i64 z] 25))
  generalize textF m x y z = TF at *
  clear h1 h2 hx hy hz
  go_enter Tryd.func18, Tryd.ntmps18
  go_wp2_with fail
  refine (HK.out _).mono ?_
  rintro e W ⟨rfl, rfl⟩
  clear HK
  go_wp2_with fail
  go_loopw [3, 4] (fun v vi wr => ∃ j : Nat, vi = .int .i64 j ∧ j ≤ 3 ∧ v = .string ⟨(sTo m x y z j).toArray⟩ ∧ Hid (∀ i, i < j → codeF m i ≠ 0 → 0 ≤ numF x y z i) ∧ Hid (Arr4 wr w.heap.size 25 m x y z) ∧ Hid (Below w.heap.size w wr)) (fun _ vi _ => 3 - (intOf vi).toNat)
  case atStart => exact ⟨0, rfl, by omega, rfl, Lib.hid (fun i hi => by omega), H0, HB⟩
  case round =>
    clear H0 HB
    obtain ⟨j, rfl, hj, rfl, HG, HX, HB⟩ := hrel
    by_cases hlt : j < 3
    · obtain ⟨o0, o1, o2, o3, _⟩ := HX.out.cells
      have hne := HNe.out j
      have hln := HLn.out j HG.out
      have HS1 := Lib.hid (HSS.out j)
      have HT2j := Lib.hid (HT2.out j hlt)
      have hIj := HI0.out j
      clear HNe HLn HSS HT1 HT2 HI0
      generalize sTo m x y z j = s at *
      go_wp2_with fail
      refine (HP.out j hlt _).mono ?_
      rintro e W1 ⟨rfl, rfl⟩
      by_cases hcf : codeF m j = 0
      · have HE : Hid (sTo m x y z (j + 1) = s) := Lib.hid (by rw [HS1.out, if_pos hcf])
        have HG1 : Hid (∀ i, i < j + 1 → codeF m i ≠ 0 → 0 ≤ numF x y z i) := Lib.hid (fun i hi hc => by
          by_cases e : i < j
          · exact HG.out i e hc
          · obtain rfl : i = j := by omega
            exact absurd hcf hc)
        generalize codeF m j = cf at *
        subst hcf
        clear HS1 HP HM HT2j
        go_wp2_with fail
        go_roundw
        case rel => exact ⟨j + 1, by go_num, by omega, by rw [HE.out], HG1, HX, HB⟩
        case measure => simp [intOf]; omega
      · have HE : Hid (sTo m x y z (j + 1) = s ++ 32 :: Lib.itoa (numF x y z j)) := Lib.hid (by rw [HS1.out, if_neg hcf])
        have HG1 : Hid (0 ≤ numF x y z j → ∀ i, i < j + 1 → codeF m i ≠ 0 → 0 ≤ numF x y z i) := Lib.hid (fun h0 i hi hc => by
          by_cases e : i < j
          · exact HG.out i e hc
          · obtain rfl : i = j := by omega
            exact h0)
        have HTn := Lib.hid (HT2j.out hcf)
        have hq : (codeF m j == 0) = false := by simpa using hcf
        have HMj := Lib.hid (HM.out j hlt)
        clear HS1 HP HM HT2j HG
        generalize codeF m j = cf at *
        generalize numF x y z j = n at *
        go_wp2_with fail
        refine (HMj.out _).mono ?_
        rintro e W1 ⟨rfl, hW1⟩
        have HX1 := Lib.hid (HX.out.below hW1); have HB1 := Lib.hid (belowOn HB.out hW1)
        clear o0 o1 o2 o3 HX HB hW1
        by_cases hn : n < 0
        · have HE2 := Lib.hid (HTn.out hn)
          clear HTn HG1 HE
          go_wp2_with fail
          go_ret
          rw [HE2.out]
          exact ⟨rfl, HB1.out⟩
        · have hn0 : 0 ≤ n := by omega
          have HG2 := Lib.hid (HG1.out hn0)
          obtain ⟨o0, o1, o2, o3, _⟩ := HX1.out.cells
          have HDn := Lib.hid (HD.out n hn0 hIj.2)
          have hlt2 := itoa_short n hn0 hIj.2
          clear HTn HG1
          generalize Lib.itoa n = t at *
          have q1 : ∀ W, (Op.stringOp .add (⟨s.toArray⟩ : ByteArray) (⟨#[32]⟩ : ByteArray)).run Tryd.prog W = .ok (.string ((⟨s.toArray⟩ : ByteArray) ++ (⟨#[32]⟩ : ByteArray))) W := fun W => run_string_add_sum W _ _ (by simp [ByteArray.size]; omega)
          have q2 : ∀ W, (Op.stringOp .add ((⟨s.toArray⟩ : ByteArray) ++ (⟨#[32]⟩ : ByteArray)) (⟨t.toArray⟩ : ByteArray)).run Tryd.prog W = .ok (.string (((⟨s.toArray⟩ : ByteArray) ++ (⟨#[32]⟩ : ByteArray)) ++ (⟨t.toArray⟩ : ByteArray))) W := fun W => run_string_add_sum W _ _ (by simp only [ByteArray.size_append]; simp [ByteArray.size]; omega)
          have hjoin : ((⟨s.toArray⟩ : ByteArray) ++ (⟨#[32]⟩ : ByteArray)) ++ (⟨t.toArray⟩ : ByteArray) = ⟨(s ++ 32 :: t).toArray⟩ := by
            apply ByteArray.ext
            simp [ByteArray.data_append]
          have HJ := Lib.hid hjoin
          clear hjoin
          go_wp2_with fail
          refine (HMj.out _).mono ?_
          rintro e W2 ⟨rfl, hW2⟩
          have HX2 := Lib.hid (HX1.out.below hW2); have HB2 := Lib.hid (belowOn HB1.out hW2)
          clear o0 o1 o2 o3 HX1 HB1 hW2
          go_wp2_with fail
          refine (HDn.out _).mono ?_
          rintro e W3 ⟨rfl, hW3⟩
          have HX3 := Lib.hid (HX2.out.below hW3); have HB3 := Lib.hid (belowOn HB2.out hW3)
          clear HX2 HB2 hW3
          go_wp2_with fail
          go_roundw
          case rel => exact ⟨j + 1, by go_num, by omega, by rw [HE.out, ← HJ.out], HG2, HX3, HB3⟩
          case measure => simp [intOf]; omega
    · obtain rfl : j = 3 := by omega
      have HV := Lib.hid (HT1.out HG.out)
      have hne := HNe.out 3
      clear HG HT1 HT2 HNe HLn HSS
      generalize sTo m x y z 3 = s at *
      go_wp2_with fail
      go_ret
      rw [HV.out]
      exact ⟨rfl, HB.out⟩
theorem opRefText_c (k x y z : Int) (hx : inI x) (hy : inI y) (hz : inI z) (w : World) :
    Calls Tryd.prog 18 #[.agg #[.int .i64 k, .int .i64 x, .int .i64 y, .int .i64 z]] w fun e w' => e = .returned (.string ⟨(textF k x y z).toArray⟩) ∧ Below w.heap.size w w' := by
  by_cases hk : okK k
  · obtain ⟨m, rfl, h1, h2⟩ := hk.nat
    exact refText_kind m h1 h2 x y z hx hy hz w
  · have e : textF k x y z = [] := if_neg (fun h => hk h.1)
    rw [e]
    exact refText_notKind k x y z hk w
end Go.Proofs.YtaiioflhkmflgaaDoor
