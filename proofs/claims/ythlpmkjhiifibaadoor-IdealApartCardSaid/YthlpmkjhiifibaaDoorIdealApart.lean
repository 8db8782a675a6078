/- The law IdealApart, for all numbers and all acts: true. -/
import Derived.Test.YthlpmkjhiifibaaDoorIdealApartA
namespace Go.Proofs.YthlpmkjhiifibaaDoor
open Go Go.RowKit
set_option maxRecDepth 100000
attribute [local go_sem ↓] Go.wp_at_zero Go.wp_at_succ

set_option maxHeartbeats 6400000 in
theorem apart_right (b c d : Nat) (hr : Right 2 b c d) (a : Option Addr) (n cap : Nat) (g : Nat → ActN) (h1 : ¬ 12 < b) (h2 : ¬ 8 < c) (h3 : ¬ 8 < d) (hn : n ≤ 60) (w : World) (hS : SpansAt w) (hRw : RowsAt w) (hAct : GivenActs w a n g) : Calls Tryd.prog 4 #[.int .i64 b, .int .i64 c, .int .i64 d, .slice a n cap] w fun e w' => e = .returned (.bool true) ∧ Below w.heap.size w w' := by
  have HN : Hid (∀ W, SpansAt W → _) := Lib.hid (fun W hW => New_yes b c d hr W hW)
  have HAct := Lib.hid hAct
  have HRw := Lib.hid hRw
  clear hr hAct
  have HA := Lib.hid (awake_c w hS hRw)
  have HS := Lib.hid hS
  clear hS hRw
  go_enter Tryd.func4, Tryd.ntmps4
  go_wp2_with fail
  refine HA.out.mono ?_
  rintro e W1 ⟨rfl, hW1⟩
  have HB1 := Lib.hid hW1
  clear hW1 HA
  go_wp2_with fail
  refine (Do_nil 0 11 0 0 0 false _).mono ?_
  rintro e W2 ⟨rfl, hW2⟩
  have HB2 := Lib.hid (belowOn HB1.out hW2)
  clear hW2 HB1
  go_wp2_with fail
  refine (Reg_nil 0 0 _).mono ?_
  rintro e V ⟨rfl, rfl⟩
  go_wp2_with fail
  refine (Glob_nil 0 _).mono ?_
  rintro e V ⟨rfl, rfl⟩
  go_wp2_with fail
  refine (Car_nil 0 _).mono ?_
  rintro e V ⟨rfl, rfl⟩
  go_wp2_with fail
  refine (Cdr_nil 0 _).mono ?_
  rintro e V ⟨rfl, rfl⟩
  go_wp2_with fail
  refine (Len_nil _).mono ?_
  rintro e V ⟨rfl, rfl⟩
  go_wp2_with fail
  refine (Copy_nil _).mono ?_
  rintro e V ⟨rfl, rfl⟩
  go_wp2_with fail
  refine (HN.out _ (HS.out.below HB2.out)).mono ?_
  rintro e W3 ⟨X, R, L, rfl, hs2, l1, l2, l3, hW3⟩
  have HT0 : Hid (Stores w W3 b c d [⟨X, R, L, .slice none 0 0, st0⟩]) := Lib.hid (by
    have := HB2.out.size
    exact Stores.new (belowOn HB2.out hW3) hs2 (by omega) (by omega) (by omega))
  clear hW3 HB2 HN hs2 l1 l2 l3
  go_wp2_with fail
  go_loopw [12] (fun vi wr => ∃ (k : Nat) (v : Value) (s : St), vi = .int .i64 k ∧ k ≤ n ∧ s.n ≤ k ∧ Hid (Stores w wr b c d [⟨X, R, L, v, s⟩])) (fun vi _ => n - (intOf vi).toNat)
  case atStart => exact ⟨0, _, _, rfl, Nat.zero_le _, Nat.le_refl _, HT0⟩
  case round =>
    clear HT0
    obtain ⟨k, v, s, rfl, hk, hsn, HT⟩ := hrel
    by_cases hlt : k < n
    · obtain ⟨ab, off, rfl, hab, hq0⟩ := HAct.out.2.1.at' hlt
      have hqr := hq0.other (HT.out.old.block ab hab)
      clear hq0 HAct
      generalize g k = q at *
      obtain ⟨qm, qk, qx, qy, qz, qf⟩ := q
      obtain ⟨a0, a1, a2, a3, a4, a5⟩ := hqr
      dsimp only at a0 a1 a2 a3 a4 a5
      have hlab : ab < wr.heap.size := lt_of_cell a0
      have hnab : ab ≠ wr.heap.size := by omega
      have HK0 : Hid (Kept w (wr.alloc (.cells #[.int .i64 qm, .int .i64 qk, .int .i64 qx, .int .i64 qy, .int .i64 qz, .bool qf] 37)) b c d [⟨X, R, L, v, s⟩] wr.heap.size ⟨qm, qk, qx, qy, qz, qf⟩) := Lib.hid ⟨HT.out.on (below_new _ _), by
        refine ⟨?_, ?_, ?_, ?_, ?_, ?_⟩ <;> (rw [World.cell?_alloc_new]; rfl), fun p hp hf => by
        obtain rfl : p = _ := by simpa using hp
        have := HT.out.h1.lt _ hf; omega⟩
      have HC1 := Lib.hid (Copy_c HK0.out.st.h1)
      dsimp only at HC1
      have HDo : Hid (∀ (W : World) (v : Value), Below w.heap.size w W → StoreAt W X R L v b c d s → _) := Lib.hid (fun W v hW hst => Do_c (w := W) (X := X) (R := R) (L := L) (v := v) hst (HS.out.below hW) (HRw.out.below hW) qm qk qx qy qz qf (by omega))
      have HDw : Hid (∀ (W : World) (X R L : Nat) (v : Value), Below w.heap.size w W → StoreAt W X R L v b c d s → _) := Lib.hid (fun W X R L v hW hst => Do_c (w := W) (X := X) (R := R) (L := L) (v := v) hst (HS.out.below hW) (HRw.out.below hW) qm 1 0 7 0 false (by omega))
      have HN1 : Hid ((doS b c d s qm qk qx qy qz qf).n ≤ k + 1) := Lib.hid (by have := (doS_n b c d s qm qk qx qy qz qf).1; omega)
      have HE1 : Hid (∀ i j : Int, ¬ (doS b c d s qm qk qx qy qz qf).g 0 i j = s.g 0 i j → i = qm ∧ j = qx) := Lib.hid (fun i j h => by
        refine Decidable.byContradiction fun h' => h (reg_same b c d s qm qk qx qy qz qf i j h'))
      have HE2 : Hid (∀ i : Int, i < s.n → qk ≠ 6 → qk ≠ 7 → (doS b c d s qm qk qx qy qz qf).g 2 i 0 = s.g 2 i 0 ∧ (doS b c d s qm qk qx qy qz qf).g 3 i 0 = s.g 3 i 0) := Lib.hid (fun i hi h6 h7 => cell_same b c d s qm qk qx qy qz qf i hi h6 h7)
      have HE3 : Hid (∀ i : Int, i < s.n → (doS b c d s qm 1 0 7 0 false).g 2 i 0 = s.g 2 i 0 ∧ (doS b c d s qm 1 0 7 0 false).g 3 i 0 = s.g 3 i 0) := Lib.hid (fun i hi => cell_same b c d s qm 1 0 7 0 false i hi (by decide) (by decide))
      have HE4 : Hid ((doS b c d s qm 1 0 7 0 false).n = s.n) := Lib.hid (set_n b c d s qm 0 7 0 false)
      have HE5 : Hid (qk = 10 ∨ qk = 11 → doS b c d s qm qk qx qy qz qf = s) := Lib.hid (fun h => ask_same b c d s qm qk qx qy qz qf h)
      have HE6 : Hid (qk ≠ 10 → qk ≠ 11 → doR b c d s qm qk qx qy qz qf ≠ 2 ∧ doR b c d s qm qk qx qy qz qf ≠ 3 ∧ doR b c d s qm qk qx qy qz qf ≠ 0) := Lib.hid (fun h h' => res_not b c d s qm qk qx qy qz qf h h')
      generalize doS b c d s qm qk qx qy qz qf = s1 at *
      generalize doR b c d s qm qk qx qy qz qf = r1 at *
      generalize doS b c d s qm 1 0 7 0 false = sw at *
      generalize doR b c d s qm 1 0 7 0 false = rw1 at *
      have hns : s.n ≤ 60 := by omega
      go_wp2_with fail
      refine HC1.out.mono ?_
      rintro e W4 hP
      obtain ⟨⟨Xw, Rw, Lw, vw, sx⟩, rfl, es, hP2⟩ := HK0.out.copy hP
      dsimp only at es hP2
      have es' := es.symm; clear es; subst es'
      have HK1 := Lib.hid hP2.swap
      generalize wr.heap.size = AA at *
      clear hP hP2 HC1 HK0 a0 a1 a2 a3 a4 a5 hlab hnab HT
      by_cases hk : qk = 10
      · skip
        subst hk
        have HE7 : Hid (s1 = s) := Lib.hid (HE5.out (by decide))
        have HE8 := HE7
        obtain ⟨a0, a1, a2, a3, a4, a5⟩ := HK1.out.act
        dsimp only at a0 a1 a2 a3 a4 a5
        simp only [Nat.zero_add] at a1 a2 a3 a4 a5
        go_wp2_with fail
        refine (HDo.out _ _ HK1.out.st.old HK1.out.st.h1).mono ?_
        rintro e VV hP
        obtain ⟨rfl, v1, hP2⟩ := HK1.out.does hP
        have HK2 := Lib.hid hP2
        clear hP hP2 HK1 HDo
        (try clear a0 a1 a2 a3 a4 a5)
        have HL1 := Lib.hid (Len_c HK2.out.st.h1)
        have HL2 := Lib.hid (Len_c HK2.out.st.h2)
        dsimp only at HL1 HL2
        rw [HE7.out] at HL1
        clear HE2 HE5 HE6
        go_wp2_with fail
        refine HL1.out.mono ?_
        rintro e V1 ⟨rfl, rfl⟩
        go_wp2_with fail
        refine HL2.out.mono ?_
        rintro e V1 ⟨rfl, rfl⟩
        clear HL1 HL2
        have H0 := Lib.hid (Below.refl VV.heap.size VV)
        go_wp2_with fail
        go_loopw [16] (fun vm wr => ∃ m : Nat, vm = .int .i64 m ∧ m ≤ b ∧ Hid (Below VV.heap.size VV wr)) (fun vm _ => b - (intOf vm).toNat)
        case atStart => exact ⟨0, rfl, Nat.zero_le _, H0⟩
        case round =>
          clear H0
          obtain ⟨m, rfl, hm, HBm⟩ := hrel
          by_cases hlm : m < b
          · go_wp2_with fail
            go_loopw [17] (fun vr wr => ∃ r : Nat, vr = .int .i64 r ∧ r ≤ c ∧ Hid (Below VV.heap.size VV wr)) (fun vr _ => c - (intOf vr).toNat)
            case atStart => exact ⟨0, rfl, Nat.zero_le _, HBm⟩
            case round =>
              clear HBm
              obtain ⟨j, rfl, hj, HBm⟩ := hrel
              by_cases hlj : j < c
              · have HG := Lib.hid (Reg_c (HK2.out.on HBm.out).st.h1 m j)
                have HG2 : Hid (∀ V, Below VV.heap.size VV V → _) := Lib.hid (fun V hV => Reg_c (HK2.out.on hV).st.h2 m j)
                dsimp only at HG HG2
                rw [HE7.out] at HG
                generalize s.g 0 m j = xx at *
                go_wp2_with fail
                refine HG.out.mono ?_
                rintro e V1 ⟨rfl, hV1⟩
                have HB1 := Lib.hid (belowOn HBm.out hV1)
                clear HG HBm hV1
                go_wp2_with fail
                refine (HG2.out _ HB1.out).mono ?_
                rintro e V2 ⟨rfl, hV2⟩
                have HB2 := Lib.hid (belowOn HB1.out hV2)
                clear HG2 HB1 hV2
                go_wp2_with fail
                go_roundw
                case rel => exact ⟨j + 1, by go_num, by omega, HB2⟩
                case measure => simp [intOf]; omega
              · obtain rfl : j = c := by omega
                go_wp2_with fail
                go_roundw
                case rel => exact ⟨m + 1, by go_num, by omega, HBm⟩
                case measure => simp [intOf]; omega
          · obtain rfl : m = b := by omega
            have HK3 := Lib.hid (HK2.out.on HBm.out).swap
            clear HK2 HBm HE1
            obtain ⟨a0, a1, a2, a3, a4, a5⟩ := HK3.out.act
            dsimp only at a0 a1 a2 a3 a4 a5
            simp only [Nat.zero_add] at a1 a2 a3 a4 a5
            go_wp2_with fail
            refine (HDw.out _ _ _ _ _ HK3.out.st.old HK3.out.st.h1).mono ?_
            rintro e V5 hP
            obtain ⟨rfl, vw2, hP2⟩ := HK3.out.does hP
            have HK4 := Lib.hid hP2
            clear hP hP2 HK3 HDw a0 a1 a2 a3 a4 a5
            have H0 := Lib.hid (Below.refl V5.heap.size V5)
            go_wp2_with fail
            go_loopw [18] (fun vi wr => ∃ i : Nat, vi = .int .i64 i ∧ i ≤ s.n ∧ Hid (Below V5.heap.size V5 wr)) (fun vi _ => s.n - (intOf vi).toNat)
            case atStart => exact ⟨0, rfl, Nat.zero_le _, H0⟩
            case round =>
              clear H0
              obtain ⟨i, rfl, hi, HBi⟩ := hrel
              have HLn := Lib.hid (Len_c (HK4.out.on HBi.out).st.h1)
              dsimp only at HLn
              rw [HE4.out] at HLn
              go_wp2_with fail
              refine HLn.out.mono ?_
              rintro e V6 ⟨rfl, rfl⟩
              clear HLn
              by_cases hli : i < s.n
              · obtain ⟨a0, a1, a2, a3, a4, a5⟩ := (HK4.out.on HBi.out).act
                dsimp only at a0 a1 a2 a3 a4 a5
                simp only [Nat.zero_add] at a1 a2 a3 a4 a5
                have HC1 := Lib.hid (Car_c (HK4.out.on HBi.out).st.h2 i)
                have HC2 : Hid (∀ V, Below V5.heap.size V5 V → _) := Lib.hid (fun V hV => Car_c (HK4.out.on hV).st.h1 i)
                have HC3 : Hid (∀ V, Below V5.heap.size V5 V → _) := Lib.hid (fun V hV => Cdr_c (HK4.out.on hV).st.h2 i)
                have HC4 : Hid (∀ V, Below V5.heap.size V5 V → _) := Lib.hid (fun V hV => Cdr_c (HK4.out.on hV).st.h1 i)
                dsimp only at HC1 HC2 HC3 HC4
                rw [(HE3.out i (by omega)).1] at HC2
                rw [(HE3.out i (by omega)).2] at HC4
                rw [HE8.out] at HC1 HC3
                generalize s.g 2 i 0 = x2 at *
                generalize s.g 3 i 0 = x3 at *
                go_wp2_with fail
                refine HC1.out.mono ?_
                rintro e V1 ⟨rfl, hV1⟩
                have HB1 := Lib.hid (belowOn HBi.out hV1)
                clear HC1 HBi hV1
                go_wp2_with fail
                refine (HC2.out _ HB1.out).mono ?_
                rintro e V2 ⟨rfl, hV2⟩
                have HB2 := Lib.hid (belowOn HB1.out hV2)
                clear HC2 HB1 hV2
                go_wp2_with fail
                refine (HC3.out _ HB2.out).mono ?_
                rintro e V3 ⟨rfl, hV3⟩
                have HB3 := Lib.hid (belowOn HB2.out hV3)
                clear HC3 HB2 hV3
                go_wp2_with fail
                refine (HC4.out _ HB3.out).mono ?_
                rintro e V4 ⟨rfl, hV4⟩
                have HB4 := Lib.hid (belowOn HB3.out hV4)
                clear HC4 HB3 hV4
                go_wp2_with fail
                go_roundw
                case rel => exact ⟨i + 1, by go_num, by omega, HB4⟩
                case measure => simp [intOf]; omega
              · obtain rfl : i = s.n := by omega
                have HTn := Lib.hid (HK4.out.on HBi.out).swap.st.tail0
                clear HK4 HBi
                go_wp2_with fail
                go_roundw
                case rel => exact ⟨k + 1, _, s1, by go_num, by omega, HN1.out, HTn⟩
                case measure => simp [intOf]; omega
      by_cases hk' : qk = 11
      · have hk := hk'
        clear hk'
        subst hk
        have HE7 : Hid (s1 = s) := Lib.hid (HE5.out (by decide))
        have HE8 := HE7
        obtain ⟨a0, a1, a2, a3, a4, a5⟩ := HK1.out.act
        dsimp only at a0 a1 a2 a3 a4 a5
        simp only [Nat.zero_add] at a1 a2 a3 a4 a5
        go_wp2_with fail
        refine (HDo.out _ _ HK1.out.st.old HK1.out.st.h1).mono ?_
        rintro e VV hP
        obtain ⟨rfl, v1, hP2⟩ := HK1.out.does hP
        have HK2 := Lib.hid hP2
        clear hP hP2 HK1 HDo
        (try clear a0 a1 a2 a3 a4 a5)
        have HL1 := Lib.hid (Len_c HK2.out.st.h1)
        have HL2 := Lib.hid (Len_c HK2.out.st.h2)
        dsimp only at HL1 HL2
        rw [HE7.out] at HL1
        clear HE2 HE5 HE6
        go_wp2_with fail
        refine HL1.out.mono ?_
        rintro e V1 ⟨rfl, rfl⟩
        go_wp2_with fail
        refine HL2.out.mono ?_
        rintro e V1 ⟨rfl, rfl⟩
        clear HL1 HL2
        have H0 := Lib.hid (Below.refl VV.heap.size VV)
        go_wp2_with fail
        go_loopw [16] (fun vm wr => ∃ m : Nat, vm = .int .i64 m ∧ m ≤ b ∧ Hid (Below VV.heap.size VV wr)) (fun vm _ => b - (intOf vm).toNat)
        case atStart => exact ⟨0, rfl, Nat.zero_le _, H0⟩
        case round =>
          clear H0
          obtain ⟨m, rfl, hm, HBm⟩ := hrel
          by_cases hlm : m < b
          · go_wp2_with fail
            go_loopw [17] (fun vr wr => ∃ r : Nat, vr = .int .i64 r ∧ r ≤ c ∧ Hid (Below VV.heap.size VV wr)) (fun vr _ => c - (intOf vr).toNat)
            case atStart => exact ⟨0, rfl, Nat.zero_le _, HBm⟩
            case round =>
              clear HBm
              obtain ⟨j, rfl, hj, HBm⟩ := hrel
              by_cases hlj : j < c
              · have HG := Lib.hid (Reg_c (HK2.out.on HBm.out).st.h1 m j)
                have HG2 : Hid (∀ V, Below VV.heap.size VV V → _) := Lib.hid (fun V hV => Reg_c (HK2.out.on hV).st.h2 m j)
                dsimp only at HG HG2
                rw [HE7.out] at HG
                generalize s.g 0 m j = xx at *
                go_wp2_with fail
                refine HG.out.mono ?_
                rintro e V1 ⟨rfl, hV1⟩
                have HB1 := Lib.hid (belowOn HBm.out hV1)
                clear HG HBm hV1
                go_wp2_with fail
                refine (HG2.out _ HB1.out).mono ?_
                rintro e V2 ⟨rfl, hV2⟩
                have HB2 := Lib.hid (belowOn HB1.out hV2)
                clear HG2 HB1 hV2
                go_wp2_with fail
                go_roundw
                case rel => exact ⟨j + 1, by go_num, by omega, HB2⟩
                case measure => simp [intOf]; omega
              · obtain rfl : j = c := by omega
                go_wp2_with fail
                go_roundw
                case rel => exact ⟨m + 1, by go_num, by omega, HBm⟩
                case measure => simp [intOf]; omega
          · obtain rfl : m = b := by omega
            have HK3 := Lib.hid (HK2.out.on HBm.out).swap
            clear HK2 HBm HE1
            obtain ⟨a0, a1, a2, a3, a4, a5⟩ := HK3.out.act
            dsimp only at a0 a1 a2 a3 a4 a5
            simp only [Nat.zero_add] at a1 a2 a3 a4 a5
            go_wp2_with fail
            refine (HDw.out _ _ _ _ _ HK3.out.st.old HK3.out.st.h1).mono ?_
            rintro e V5 hP
            obtain ⟨rfl, vw2, hP2⟩ := HK3.out.does hP
            have HK4 := Lib.hid hP2
            clear hP hP2 HK3 HDw a0 a1 a2 a3 a4 a5
            have H0 := Lib.hid (Below.refl V5.heap.size V5)
            go_wp2_with fail
            go_loopw [18] (fun vi wr => ∃ i : Nat, vi = .int .i64 i ∧ i ≤ s.n ∧ Hid (Below V5.heap.size V5 wr)) (fun vi _ => s.n - (intOf vi).toNat)
            case atStart => exact ⟨0, rfl, Nat.zero_le _, H0⟩
            case round =>
              clear H0
              obtain ⟨i, rfl, hi, HBi⟩ := hrel
              have HLn := Lib.hid (Len_c (HK4.out.on HBi.out).st.h1)
              dsimp only at HLn
              rw [HE4.out] at HLn
              go_wp2_with fail
              refine HLn.out.mono ?_
              rintro e V6 ⟨rfl, rfl⟩
              clear HLn
              by_cases hli : i < s.n
              · obtain ⟨a0, a1, a2, a3, a4, a5⟩ := (HK4.out.on HBi.out).act
                dsimp only at a0 a1 a2 a3 a4 a5
                simp only [Nat.zero_add] at a1 a2 a3 a4 a5
                have HC1 := Lib.hid (Car_c (HK4.out.on HBi.out).st.h2 i)
                have HC2 : Hid (∀ V, Below V5.heap.size V5 V → _) := Lib.hid (fun V hV => Car_c (HK4.out.on hV).st.h1 i)
                have HC3 : Hid (∀ V, Below V5.heap.size V5 V → _) := Lib.hid (fun V hV => Cdr_c (HK4.out.on hV).st.h2 i)
                have HC4 : Hid (∀ V, Below V5.heap.size V5 V → _) := Lib.hid (fun V hV => Cdr_c (HK4.out.on hV).st.h1 i)
                dsimp only at HC1 HC2 HC3 HC4
                rw [(HE3.out i (by omega)).1] at HC2
                rw [(HE3.out i (by omega)).2] at HC4
                rw [HE8.out] at HC1 HC3
                generalize s.g 2 i 0 = x2 at *
                generalize s.g 3 i 0 = x3 at *
                go_wp2_with fail
                refine HC1.out.mono ?_
                rintro e V1 ⟨rfl, hV1⟩
                have HB1 := Lib.hid (belowOn HBi.out hV1)
                clear HC1 HBi hV1
                go_wp2_with fail
                refine (HC2.out _ HB1.out).mono ?_
                rintro e V2 ⟨rfl, hV2⟩
                have HB2 := Lib.hid (belowOn HB1.out hV2)
                clear HC2 HB1 hV2
                go_wp2_with fail
                refine (HC3.out _ HB2.out).mono ?_
                rintro e V3 ⟨rfl, hV3⟩
                have HB3 := Lib.hid (belowOn HB2.out hV3)
                clear HC3 HB2 hV3
                go_wp2_with fail
                refine (HC4.out _ HB3.out).mono ?_
                rintro e V4 ⟨rfl, hV4⟩
                have HB4 := Lib.hid (belowOn HB3.out hV4)
                clear HC4 HB3 hV4
                go_wp2_with fail
                go_roundw
                case rel => exact ⟨i + 1, by go_num, by omega, HB4⟩
                case measure => simp [intOf]; omega
              · obtain rfl : i = s.n := by omega
                have HTn := Lib.hid (HK4.out.on HBi.out).swap.st.tail0
                clear HK4 HBi
                go_wp2_with fail
                go_roundw
                case rel => exact ⟨k + 1, _, s1, by go_num, by omega, HN1.out, HTn⟩
                case measure => simp [intOf]; omega
      have hb10 : (qk == 10) = false := by simpa using hk
      have hb11 : (qk == 11) = false := by simpa using hk'
      obtain ⟨a0, a1, a2, a3, a4, a5⟩ := HK1.out.act
      dsimp only at a0 a1 a2 a3 a4 a5
      simp only [Nat.zero_add] at a1 a2 a3 a4 a5
      go_wp2_with fail
      refine (HDo.out _ _ HK1.out.st.old HK1.out.st.h1).mono ?_
      rintro e VV hP
      obtain ⟨rfl, v1, hP2⟩ := HK1.out.does hP
      have HK2 := Lib.hid hP2
      clear hP hP2 HK1 HDo
      (try clear a0 a1 a2 a3 a4 a5)
      obtain ⟨n2, n3, n0⟩ := HE6.out hk hk'
      have hr2 : (r1 == 2) = false := by simpa using n2
      have hr3 : (r1 == 3) = false := by simpa using n3
      have hr0 : (r1 == 0) = false := by simpa using n0
      clear n2 n3 n0 hk hk' HE5 HE6
      have H0 := Lib.hid (Below.refl VV.heap.size VV)
      go_wp2_with fail
      go_loopw [16] (fun vm wr => ∃ m : Nat, vm = .int .i64 m ∧ m ≤ b ∧ Hid (Below VV.heap.size VV wr)) (fun vm _ => b - (intOf vm).toNat)
      case atStart => exact ⟨0, rfl, Nat.zero_le _, H0⟩
      case round =>
        clear H0
        obtain ⟨m, rfl, hm, HBm⟩ := hrel
        by_cases hlm : m < b
        · go_wp2_with fail
          go_loopw [17] (fun vr wr => ∃ r : Nat, vr = .int .i64 r ∧ r ≤ c ∧ Hid (Below VV.heap.size VV wr)) (fun vr _ => c - (intOf vr).toNat)
          case atStart => exact ⟨0, rfl, Nat.zero_le _, HBm⟩
          case round =>
            clear HBm
            obtain ⟨j, rfl, hj, HBm⟩ := hrel
            by_cases hlj : j < c
            · have HG := Lib.hid (Reg_c (HK2.out.on HBm.out).st.h1 m j)
              have HG2 : Hid (∀ V, Below VV.heap.size VV V → _) := Lib.hid (fun V hV => Reg_c (HK2.out.on hV).st.h2 m j)
              dsimp only at HG HG2
              by_cases hv : s1.g 0 m j = s.g 0 m j
              · rw [hv] at HG
                clear hv
                generalize s.g 0 m j = xx at *
                go_wp2_with fail
                refine HG.out.mono ?_
                rintro e V1 ⟨rfl, hV1⟩
                have HB1 := Lib.hid (belowOn HBm.out hV1)
                clear HG HBm hV1
                go_wp2_with fail
                refine (HG2.out _ HB1.out).mono ?_
                rintro e V2 ⟨rfl, hV2⟩
                have HB2 := Lib.hid (belowOn HB1.out hV2)
                clear HG2 HB1 hV2
                go_wp2_with fail
                go_roundw
                case rel => exact ⟨j + 1, by go_num, by omega, HB2⟩
                case measure => simp [intOf]; omega
              · obtain ⟨q1, q2⟩ := HE1.out m j hv
                have hb1 : ((m : Int) != qm) = false := by simpa using q1
                have hb2 : ((j : Int) != qx) = false := by simpa using q2
                have hv' : ¬ ((s1.g 0 m j : Nat) : Int) = ((s.g 0 m j : Nat) : Int) := by omega
                have hb3 : (((s1.g 0 m j : Nat) : Int) != ((s.g 0 m j : Nat) : Int)) = true := by simpa using hv'
                clear hv q1 q2 hv'
                generalize s1.g 0 m j = xx at *
                generalize s.g 0 m j = yy at *
                have HKr : Hid (∀ V, Below VV.heap.size VV V → _) := Lib.hid (fun V hV => (HK2.out.on hV).act)
                go_wp2_with fail
                refine HG.out.mono ?_
                rintro e V1 ⟨rfl, hV1⟩
                have HB1 := Lib.hid (belowOn HBm.out hV1)
                clear HG HBm hV1
                go_wp2_with fail
                refine (HG2.out _ HB1.out).mono ?_
                rintro e V2 ⟨rfl, hV2⟩
                have HB2 := Lib.hid (belowOn HB1.out hV2)
                clear HG2 HB1 hV2
                obtain ⟨a0, a1, a2, a3, a4, a5⟩ := HKr.out _ HB2.out
                dsimp only at a0 a1 a2 a3 a4 a5
                simp only [Nat.zero_add] at a1 a2 a3 a4 a5
                clear HKr
                go_wp2_with fail
                go_roundw
                case rel => exact ⟨j + 1, by go_num, by omega, HB2⟩
                case measure => simp [intOf]; omega
            · obtain rfl : j = c := by omega
              go_wp2_with fail
              go_roundw
              case rel => exact ⟨m + 1, by go_num, by omega, HBm⟩
              case measure => simp [intOf]; omega
        · obtain rfl : m = b := by omega
          have HK3 := Lib.hid (HK2.out.on HBm.out).swap
          clear HK2 HBm HE1
          obtain ⟨a0, a1, a2, a3, a4, a5⟩ := HK3.out.act
          dsimp only at a0 a1 a2 a3 a4 a5
          simp only [Nat.zero_add] at a1 a2 a3 a4 a5
          go_wp2_with fail
          refine (HDw.out _ _ _ _ _ HK3.out.st.old HK3.out.st.h1).mono ?_
          rintro e V5 hP
          obtain ⟨rfl, vw2, hP2⟩ := HK3.out.does hP
          have HK4 := Lib.hid hP2
          clear hP hP2 HK3 HDw a0 a1 a2 a3 a4 a5
          have H0 := Lib.hid (Below.refl V5.heap.size V5)
          go_wp2_with fail
          go_loopw [18] (fun vi wr => ∃ i : Nat, vi = .int .i64 i ∧ i ≤ s.n ∧ Hid (Below V5.heap.size V5 wr)) (fun vi _ => s.n - (intOf vi).toNat)
          case atStart => exact ⟨0, rfl, Nat.zero_le _, H0⟩
          case round =>
            clear H0
            obtain ⟨i, rfl, hi, HBi⟩ := hrel
            have HLn := Lib.hid (Len_c (HK4.out.on HBi.out).st.h1)
            dsimp only at HLn
            rw [HE4.out] at HLn
            go_wp2_with fail
            refine HLn.out.mono ?_
            rintro e V6 ⟨rfl, rfl⟩
            clear HLn
            by_cases hli : i < s.n
            · obtain ⟨a0, a1, a2, a3, a4, a5⟩ := (HK4.out.on HBi.out).act
              dsimp only at a0 a1 a2 a3 a4 a5
              simp only [Nat.zero_add] at a1 a2 a3 a4 a5
              by_cases h6 : qk = 6
              · subst h6
                go_wp2_with fail
                go_roundw
                case rel => exact ⟨i + 1, by go_num, by omega, HBi⟩
                case measure => simp [intOf]; omega
              · have hb6 : (qk != 6) = true := by simpa using h6
                by_cases h7 : qk = 7
                · subst h7
                  clear hb6
                  go_wp2_with fail
                  go_roundw
                  case rel => exact ⟨i + 1, by go_num, by omega, HBi⟩
                  case measure => simp [intOf]; omega
                · have hb7 : (qk != 7) = true := by simpa using h7
                  have HC1 := Lib.hid (Car_c (HK4.out.on HBi.out).st.h2 i)
                  have HC2 : Hid (∀ V, Below V5.heap.size V5 V → _) := Lib.hid (fun V hV => Car_c (HK4.out.on hV).st.h1 i)
                  have HC3 : Hid (∀ V, Below V5.heap.size V5 V → _) := Lib.hid (fun V hV => Cdr_c (HK4.out.on hV).st.h2 i)
                  have HC4 : Hid (∀ V, Below V5.heap.size V5 V → _) := Lib.hid (fun V hV => Cdr_c (HK4.out.on hV).st.h1 i)
                  dsimp only at HC1 HC2 HC3 HC4
                  rw [(HE3.out i (by omega)).1] at HC2
                  rw [(HE3.out i (by omega)).2] at HC4
                  rw [(HE2.out i (by omega) h6 h7).1] at HC1
                  rw [(HE2.out i (by omega) h6 h7).2] at HC3
                  generalize s.g 2 i 0 = x2 at *
                  generalize s.g 3 i 0 = x3 at *
                  go_wp2_with fail
                  refine HC1.out.mono ?_
                  rintro e V1 ⟨rfl, hV1⟩
                  have HB1 := Lib.hid (belowOn HBi.out hV1)
                  clear HC1 HBi hV1
                  go_wp2_with fail
                  refine (HC2.out _ HB1.out).mono ?_
                  rintro e V2 ⟨rfl, hV2⟩
                  have HB2 := Lib.hid (belowOn HB1.out hV2)
                  clear HC2 HB1 hV2
                  go_wp2_with fail
                  refine (HC3.out _ HB2.out).mono ?_
                  rintro e V3 ⟨rfl, hV3⟩
                  have HB3 := Lib.hid (belowOn HB2.out hV3)
                  clear HC3 HB2 hV3
                  go_wp2_with fail
                  refine (HC4.out _ HB3.out).mono ?_
                  rintro e V4 ⟨rfl, hV4⟩
                  have HB4 := Lib.hid (belowOn HB3.out hV4)
                  clear HC4 HB3 hV4
                  go_wp2_with fail
                  go_roundw
                  case rel => exact ⟨i + 1, by go_num, by omega, HB4⟩
                  case measure => simp [intOf]; omega
            · obtain rfl : i = s.n := by omega
              have HTn := Lib.hid (HK4.out.on HBi.out).swap.st.tail0
              clear HK4 HBi
              go_wp2_with fail
              go_roundw
              case rel => exact ⟨k + 1, _, s1, by go_num, by omega, HN1.out, HTn⟩
              case measure => simp [intOf]; omega
    · obtain rfl : k = n := by omega
      go_wp2_with fail
      go_ret
      exact ⟨rfl, HT.out.old⟩
theorem apart_any (b c d : Int) (a : Option Addr) (n cap : Nat) (g : Nat → ActN) (w : World) (hS : SpansAt w) (hRw : RowsAt w) (hAct : GivenActs w a n g) : Calls Tryd.prog 4 #[.int .i64 b, .int .i64 c, .int .i64 d, .slice a n cap] w fun e w' => e = .returned (.bool true) ∧ Below w.heap.size w w' := by
  by_cases hr : Right 2 b c d
  · obtain ⟨b, rfl⟩ := nat_of' (show 0 ≤ b by unfold Right at hr; omega)
    obtain ⟨c, rfl⟩ := nat_of' (show 0 ≤ c by unfold Right at hr; omega)
    obtain ⟨d, rfl⟩ := nat_of' (show 0 ≤ d by unfold Right at hr; omega)
    by_cases h1 : 12 < b
    · exact apart_great1 b c d hr a n cap h1 w hS hRw
    by_cases h2 : 8 < c
    · exact apart_great2 b c d hr a n cap h1 h2 w hS hRw
    by_cases h3 : 8 < d
    · exact apart_great3 b c d hr a n cap h1 h2 h3 w hS hRw
    by_cases h4 : 60 < n
    · exact apart_great4 b c d hr a n cap h1 h2 h3 h4 hAct.1 w hS hRw
    exact apart_right b c d hr a n cap g h1 h2 h3 (by omega) w hS hRw hAct
  · exact apart_wrong b c d hr a n cap w hS hRw
end Go.Proofs.YthlpmkjhiifibaaDoor
