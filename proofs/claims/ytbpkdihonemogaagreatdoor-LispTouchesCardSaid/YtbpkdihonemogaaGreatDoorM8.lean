/- Laid together: LispSm, LispMap. -/
import Derived.Test.YtbpkdihonemogaaGreatDoorLispWk
import Derived.Test.YtbpkdihonemogaaGreatDoorM5
/- A worker's small calls: the place of a part, what needs a cell. -/
namespace Go.Proofs.YtbpkdihonemogaaGreatDoor
open Go Go.RowKit
set_option maxRecDepth 100000
attribute [local go_sem ↓] Go.wp_at_zero Go.wp_at_succ

theorem atom_i (b : Int) (h : b ≤ 9223372036854775807) (w : World) : Calls Tryz.prog 80 #[.int .i64 b] w fun e w' => e = .returned (.int .u64 (atomW b)) ∧ w = w' := by
  unfold atomW
  by_cases h0 : b < 0
  · rw [if_pos h0]; exact atom_neg b h0 w
  · rw [if_neg h0]
    obtain ⟨k, rfl⟩ : ∃ k : Nat, b = k := ⟨b.toNat, by omega⟩
    refine (atom_pos k (by omega) w).mono ?_
    rintro e w' ⟨rfl, rfl⟩
    exact ⟨rfl, rfl⟩
theorem field_i {w : World} {H A G : Nat} {C : Cf} {s : Dy} (hH : HAt w H A G C s) (hS : SpansAt w) (z : Int) (hz : U64 z) (p : Int) :
    Calls Tryz.prog 126 #[.pointer (some ⟨H, 0, none⟩), .int .u64 z, .int .i64 p] w fun e w' => e = .returned (.int .i64 (fieldP C.a C.b C.c C.d z.toNat p)) ∧ Below w.heap.size w w' := by
  obtain ⟨v, rfl, hv⟩ := u64_nat' hz
  rw [Int.toNat_natCast]
  exact hField_c hH hS v hv p
theorem truth_c (b : Bool) (w : World) : Calls Tryz.prog 135 #[.bool b] w fun e w' => e = .returned (.int .i64 (if b then 2 else 3)) ∧ w = w' := by
  cases b
  all_goals
    go_enter Tryz.func135, Tryz.ntmps135
    go_wp2_with fail
    go_ret
    exact ⟨rfl, rfl⟩
set_option maxHeartbeats 1600000 in
theorem partOf_c {w : World} {B H A G : Nat} {C : Cf} {m : Int} {s : Dy} {x : Mu} (h : WkAt w B H A G C m s x) (hS : SpansAt w) (z : Int) (hz : U64 z) :
    Calls Tryz.prog 134 #[.pointer (some ⟨B, 0, none⟩), .int .u64 z] w fun e w' => e = .returned (.int .i64 (fieldP C.a C.b C.c C.d z.toNat (partK x.q1))) ∧ Below w.heap.size w w' := by
  obtain ⟨c0, _, c2, _⟩ := h.cells
  by_cases h4 : x.q1 = 4
  · rw [show partK x.q1 = 0 by unfold partK; rw [if_pos (.inl h4)]]
    rw [h4] at c2
    have HC := Lib.hid (field_i h.hand hS z hz 0)
    generalize fieldP C.a C.b C.c C.d z.toNat 0 = P at *
    clear h hS hz
    go_enter Tryz.func134, Tryz.ntmps134
    go_wp2_with fail
    refine HC.out.mono ?_
    rintro e V1 ⟨rfl, hb⟩
    have HB := Lib.hid hb
    clear hb HC c0 c2
    go_wp2_with fail
    go_ret
    exact ⟨rfl, HB.out⟩
  · by_cases h6 : x.q1 = 6
    · rw [show partK x.q1 = 0 by unfold partK; rw [if_pos (.inr h6)]]
      rw [h6] at c2
      have HC := Lib.hid (field_i h.hand hS z hz 0)
      generalize fieldP C.a C.b C.c C.d z.toNat 0 = P at *
      clear h hS hz
      go_enter Tryz.func134, Tryz.ntmps134
      go_wp2_with fail
      refine HC.out.mono ?_
      rintro e V1 ⟨rfl, hb⟩
      have HB := Lib.hid hb
      clear hb HC c0 c2
      go_wp2_with fail
      go_ret
      exact ⟨rfl, HB.out⟩
    · rw [show partK x.q1 = 1 by unfold partK; rw [if_neg (fun e => e.elim h4 h6)]]
      have g4 : (x.q1 == 4) = false := by simpa using h4
      have g6 : (x.q1 == 6) = false := by simpa using h6
      have HC := Lib.hid (field_i h.hand hS z hz 1)
      generalize fieldP C.a C.b C.c C.d z.toNat 1 = P at *
      clear h hS hz
      go_enter Tryz.func134, Tryz.ntmps134
      go_wp2_with fail
      refine HC.out.mono ?_
      rintro e V1 ⟨rfl, hb⟩
      have HB := Lib.hid hb
      clear hb HC c0 c2
      go_wp2_with fail
      go_ret
      exact ⟨rfl, HB.out⟩
set_option maxHeartbeats 1600000 in
theorem needCell_c {w : World} {B H A G : Nat} {C : Cf} {m : Int} {s : Dy} {x : Mu} (h : WkAt w B H A G C m s x) (hz : U64 x.m1) (k : Int) :
    Calls Tryz.prog 133 #[.pointer (some ⟨B, 0, none⟩), .int .i64 k] w (WPost w B H A G C m (.bool (!decide (isC x.m1.toNat))) s (if isC x.m1.toNat then { x with l := k } else { x with l := 90, rt := 4 })) := by
  obtain ⟨v, hm, hv⟩ := u64_nat' hz
  clear hz
  have hn : x.m1.toNat = v := by rw [hm]; rfl
  rw [hn]; clear hn
  by_cases hc : isC v
  · rw [if_pos hc, decide_eq_true hc, show (!true) = false from rfl]
    have HI := Lib.hid (fun W => isCell_cell v hc.2 hc.1 W)
    have HW0 := Lib.hid h
    clear h
    obtain ⟨c0, c1, c2, c3, c4, c5, c6, c7, c8, c9, c10, c11, c12, c13, c14, cf⟩ := HW0.out.cells
    (try dsimp only at c1 c2 c3 c4 c5 c6 c7 c8 c9 c10 c11 c12 c13)
    rw [hm] at c6
    go_enter Tryz.func133, Tryz.ntmps133
    go_wp2_with fail
    refine (HI.out _).mono ?_
    rintro e V1 ⟨rfl, rfl⟩
    go_wp2_with fail
    refine (goOn_c' HW0.out k).mono ?_
    rintro e V2 ⟨rfl, hW, hs⟩
    have HW1 := Lib.hid hW; have HQ1 := Lib.hid hs
    clear HI hW hs HW0 c0 c1 c2 c3 c4 c5 c6 c7 c8 c9 c10 c11 c12 c13 c14 cf
    go_wp2_with fail
    go_ret
    exact ⟨rfl, HW1.out, HQ1.out⟩
  · rw [if_neg hc, decide_eq_false hc, show (!false) = true from rfl]
    have HI := Lib.hid (fun W => isCell_no v hv hc W)
    have HW0 := Lib.hid h
    clear h
    obtain ⟨c0, c1, c2, c3, c4, c5, c6, c7, c8, c9, c10, c11, c12, c13, c14, cf⟩ := HW0.out.cells
    (try dsimp only at c1 c2 c3 c4 c5 c6 c7 c8 c9 c10 c11 c12 c13)
    rw [hm] at c6
    go_enter Tryz.func133, Tryz.ntmps133
    go_wp2_with fail
    refine (HI.out _).mono ?_
    rintro e V1 ⟨rfl, rfl⟩
    go_wp2_with fail
    refine (end_c HW0.out 4).mono ?_
    rintro e V2 ⟨rfl, hW, hs⟩
    have HW1 := Lib.hid hW; have HQ1 := Lib.hid hs
    clear HI hW hs HW0 c0 c1 c2 c3 c4 c5 c6 c7 c8 c9 c10 c11 c12 c13 c14 cf
    go_wp2_with fail
    go_ret
    exact ⟨rfl, HW1.out, HQ1.out⟩
end Go.Proofs.YtbpkdihonemogaaGreatDoor
/- The map of layer 14's own lines. -/
namespace Go.Proofs.YtbpkdihonemogaaGreatDoor
open Go Go.RowKit
set_option maxRecDepth 100000
attribute [local go_sem ↓] Go.wp_at_zero Go.wp_at_succ

/-- How an element of the map of lines reads: by the function's number; nil: -1. -/
def fnElem : Value → Option (DataW Unit × List MemPlace)
  | .func (.func k) a c => if a.size = 0 ∧ c.size = 0 then some (.lit (.int .i64 k), []) else none
  | .nilFunc => some (.lit (.int .i64 (-1)), [])
  | _ => none
theorem fnElem_mk (k : Nat) : fnElem (.func (.func k) #[] #[]) = some (.lit (.int .i64 k), []) := by simp [fnElem]
theorem fnElem_nil : fnElem .nilFunc = some (.lit (.int .i64 (-1)), []) := rfl
theorem fnElem_inv {v : Value} {k : Nat} {ps : List MemPlace} (h : fnElem v = some (.lit (.int .i64 k), ps)) : v = .func (.func k) #[] #[] := by
  unfold fnElem at h
  split at h
  · rename_i j a c
    split at h
    · rename_i hc
      simp only [Option.some.injEq, Prod.mk.injEq, DataW.lit.injEq, Lit.int.injEq, true_and] at h
      obtain ⟨ha, hb⟩ := hc
      have e1 : a = #[] := Array.eq_empty_of_size_eq_zero ha
      have e2 : c = #[] := Array.eq_empty_of_size_eq_zero hb
      subst e1; subst e2
      have h1 := h.1
      have : j = k := Int.ofNat.inj (show Int.ofNat j = Int.ofNat k from h1)
      rw [this]
    · cases h
  · simp only [Option.some.injEq, Prod.mk.injEq, DataW.lit.injEq, Lit.int.injEq, true_and] at h
    have h1 : (-1 : Int) = (k : Int) := h.1
    have h2 : (0 : Int) ≤ (k : Int) := Int.natCast_nonneg k
    rw [← h1] at h2
    exact absurd h2 (by decide)
  · cases h
/-- What the map tells of a line. -/
def fnV : Option Nat → Int
  | some k => k
  | none => -1
def TellsF (D : DataW Unit) (k : Int) (v : Option Nat) : Prop := Maps.has D (.int .i64 k) = v.isSome ∧ D.atKey (.int .i64 k) (.lit (.int .i64 (-1))) = .lit (.int .i64 (fnV v))
theorem TellsF.put {D : DataW Unit} {k : Int} {v : Option Nat} (hD : Maps.IsMap D) (h : TellsF D k v) (j : Int) (x : Nat) : TellsF (D.put (.int .i64 j) (.lit (.int .i64 x))) k (if k = j then some x else v) := by
  by_cases e : k = j
  · subst e
    rw [if_pos rfl]
    exact ⟨Maps.has_put_same hD (k := .int .i64 k) trivial _, Maps.atKey_put_same hD (k := .int .i64 k) trivial _ _⟩
  · rw [if_neg e]
    have hne : (Lit.int .i64 k) ≠ .int .i64 j := fun q => e (by injection q)
    exact ⟨(Maps.has_put_other hne _).trans h.1, (Maps.atKey_put_other hne _ _).trans h.2⟩
/-- The function of a line. -/
def ownK (k : Int) : Option Nat := (if k = 40 then some 118 else (if k = 39 then some 117 else (if k = 38 then some 116 else (if k = 31 then some 115 else (if k = 30 then some 114 else (if k = 24 then some 113 else (if k = 23 then some 112 else (if k = 22 then some 111 else (if k = 21 then some 110 else (if k = 20 then some 109 else (if k = 19 then some 108 else (if k = 18 then some 107 else (if k = 17 then some 106 else (if k = 16 then some 105 else (if k = 15 then some 104 else (if k = 14 then some 103 else (if k = 13 then some 102 else (if k = 12 then some 101 else (if k = 11 then some 100 else (if k = 10 then some 99 else none))))))))))))))))))))
theorem zeroFn (w : World) : (zeroValue 121).run Tryz.prog w = .ok .nilFunc w := by kernel_rfl
/-- The map of lines. -/
def OwnLines (w : World) (e : Ending) (w' : World) : Prop := ∃ D : DataW Unit, e = .returned (.map (some w.heap.size)) ∧ w'.ownsMap Tryz.prog 3 fnElem w.heap.size 20 D ∧ (∀ k, TellsF D k (ownK k)) ∧ Below w.heap.size w w'
set_option maxHeartbeats 3200000 in
theorem ownLines_c (w : World) : Calls Tryz.prog 72 #[] w (OwnLines w) := by
  have hmm := @run_makeMap Tryz.prog
  have o0 := World.ownsMap_made (H := Unit) w Tryz.prog 3 fnElem
  have b0 : Below w.heap.size w (w.alloc (.map #[] 0)) := below_new w _
  have i0 : Maps.IsMap (.map [] : DataW Unit) := Maps.isMap_empty
  have t0 : ∀ k, TellsF (.map [] : DataW Unit) k none := fun k => ⟨rfl, rfl⟩
  obtain ⟨V1, r1, o1, g1⟩ := o0.update keyedInt Tryz.underlying123 (by unfold maxLen; omega) (key := .int .i64 10) (val := .func (.func 99) #[] #[]) (Maps.keyOf_int_mk Tryz.underlying3 (by decide)) (fnElem_mk 99)
  have b1 := b0.grown g1 b0.size (fun j hj => by cases hj; exact Nat.le_refl _)
  have i1 := i0.put (.int .i64 10) (.lit (.int .i64 ((99 : Nat) : Int)))
  have t1 := fun q => (t0 q).put i0 10 99
  clear o0 g1 b0 i0 t0
  obtain ⟨V2, r2, o2, g2⟩ := o1.update keyedInt Tryz.underlying123 (by unfold maxLen; omega) (key := .int .i64 11) (val := .func (.func 100) #[] #[]) (Maps.keyOf_int_mk Tryz.underlying3 (by decide)) (fnElem_mk 100)
  have b2 := b1.grown g2 b1.size (fun j hj => by cases hj; exact Nat.le_refl _)
  have i2 := i1.put (.int .i64 11) (.lit (.int .i64 ((100 : Nat) : Int)))
  have t2 := fun q => (t1 q).put i1 11 100
  clear o1 g2 b1 i1 t1
  obtain ⟨V3, r3, o3, g3⟩ := o2.update keyedInt Tryz.underlying123 (by unfold maxLen; omega) (key := .int .i64 12) (val := .func (.func 101) #[] #[]) (Maps.keyOf_int_mk Tryz.underlying3 (by decide)) (fnElem_mk 101)
  have b3 := b2.grown g3 b2.size (fun j hj => by cases hj; exact Nat.le_refl _)
  have i3 := i2.put (.int .i64 12) (.lit (.int .i64 ((101 : Nat) : Int)))
  have t3 := fun q => (t2 q).put i2 12 101
  clear o2 g3 b2 i2 t2
  obtain ⟨V4, r4, o4, g4⟩ := o3.update keyedInt Tryz.underlying123 (by unfold maxLen; omega) (key := .int .i64 13) (val := .func (.func 102) #[] #[]) (Maps.keyOf_int_mk Tryz.underlying3 (by decide)) (fnElem_mk 102)
  have b4 := b3.grown g4 b3.size (fun j hj => by cases hj; exact Nat.le_refl _)
  have i4 := i3.put (.int .i64 13) (.lit (.int .i64 ((102 : Nat) : Int)))
  have t4 := fun q => (t3 q).put i3 13 102
  clear o3 g4 b3 i3 t3
  obtain ⟨V5, r5, o5, g5⟩ := o4.update keyedInt Tryz.underlying123 (by unfold maxLen; omega) (key := .int .i64 14) (val := .func (.func 103) #[] #[]) (Maps.keyOf_int_mk Tryz.underlying3 (by decide)) (fnElem_mk 103)
  have b5 := b4.grown g5 b4.size (fun j hj => by cases hj; exact Nat.le_refl _)
  have i5 := i4.put (.int .i64 14) (.lit (.int .i64 ((103 : Nat) : Int)))
  have t5 := fun q => (t4 q).put i4 14 103
  clear o4 g5 b4 i4 t4
  obtain ⟨V6, r6, o6, g6⟩ := o5.update keyedInt Tryz.underlying123 (by unfold maxLen; omega) (key := .int .i64 15) (val := .func (.func 104) #[] #[]) (Maps.keyOf_int_mk Tryz.underlying3 (by decide)) (fnElem_mk 104)
  have b6 := b5.grown g6 b5.size (fun j hj => by cases hj; exact Nat.le_refl _)
  have i6 := i5.put (.int .i64 15) (.lit (.int .i64 ((104 : Nat) : Int)))
  have t6 := fun q => (t5 q).put i5 15 104
  clear o5 g6 b5 i5 t5
  obtain ⟨V7, r7, o7, g7⟩ := o6.update keyedInt Tryz.underlying123 (by unfold maxLen; omega) (key := .int .i64 16) (val := .func (.func 105) #[] #[]) (Maps.keyOf_int_mk Tryz.underlying3 (by decide)) (fnElem_mk 105)
  have b7 := b6.grown g7 b6.size (fun j hj => by cases hj; exact Nat.le_refl _)
  have i7 := i6.put (.int .i64 16) (.lit (.int .i64 ((105 : Nat) : Int)))
  have t7 := fun q => (t6 q).put i6 16 105
  clear o6 g7 b6 i6 t6
  obtain ⟨V8, r8, o8, g8⟩ := o7.update keyedInt Tryz.underlying123 (by unfold maxLen; omega) (key := .int .i64 17) (val := .func (.func 106) #[] #[]) (Maps.keyOf_int_mk Tryz.underlying3 (by decide)) (fnElem_mk 106)
  have b8 := b7.grown g8 b7.size (fun j hj => by cases hj; exact Nat.le_refl _)
  have i8 := i7.put (.int .i64 17) (.lit (.int .i64 ((106 : Nat) : Int)))
  have t8 := fun q => (t7 q).put i7 17 106
  clear o7 g8 b7 i7 t7
  obtain ⟨V9, r9, o9, g9⟩ := o8.update keyedInt Tryz.underlying123 (by unfold maxLen; omega) (key := .int .i64 18) (val := .func (.func 107) #[] #[]) (Maps.keyOf_int_mk Tryz.underlying3 (by decide)) (fnElem_mk 107)
  have b9 := b8.grown g9 b8.size (fun j hj => by cases hj; exact Nat.le_refl _)
  have i9 := i8.put (.int .i64 18) (.lit (.int .i64 ((107 : Nat) : Int)))
  have t9 := fun q => (t8 q).put i8 18 107
  clear o8 g9 b8 i8 t8
  obtain ⟨V10, r10, o10, g10⟩ := o9.update keyedInt Tryz.underlying123 (by unfold maxLen; omega) (key := .int .i64 19) (val := .func (.func 108) #[] #[]) (Maps.keyOf_int_mk Tryz.underlying3 (by decide)) (fnElem_mk 108)
  have b10 := b9.grown g10 b9.size (fun j hj => by cases hj; exact Nat.le_refl _)
  have i10 := i9.put (.int .i64 19) (.lit (.int .i64 ((108 : Nat) : Int)))
  have t10 := fun q => (t9 q).put i9 19 108
  clear o9 g10 b9 i9 t9
  obtain ⟨V11, r11, o11, g11⟩ := o10.update keyedInt Tryz.underlying123 (by unfold maxLen; omega) (key := .int .i64 20) (val := .func (.func 109) #[] #[]) (Maps.keyOf_int_mk Tryz.underlying3 (by decide)) (fnElem_mk 109)
  have b11 := b10.grown g11 b10.size (fun j hj => by cases hj; exact Nat.le_refl _)
  have i11 := i10.put (.int .i64 20) (.lit (.int .i64 ((109 : Nat) : Int)))
  have t11 := fun q => (t10 q).put i10 20 109
  clear o10 g11 b10 i10 t10
  obtain ⟨V12, r12, o12, g12⟩ := o11.update keyedInt Tryz.underlying123 (by unfold maxLen; omega) (key := .int .i64 21) (val := .func (.func 110) #[] #[]) (Maps.keyOf_int_mk Tryz.underlying3 (by decide)) (fnElem_mk 110)
  have b12 := b11.grown g12 b11.size (fun j hj => by cases hj; exact Nat.le_refl _)
  have i12 := i11.put (.int .i64 21) (.lit (.int .i64 ((110 : Nat) : Int)))
  have t12 := fun q => (t11 q).put i11 21 110
  clear o11 g12 b11 i11 t11
  obtain ⟨V13, r13, o13, g13⟩ := o12.update keyedInt Tryz.underlying123 (by unfold maxLen; omega) (key := .int .i64 22) (val := .func (.func 111) #[] #[]) (Maps.keyOf_int_mk Tryz.underlying3 (by decide)) (fnElem_mk 111)
  have b13 := b12.grown g13 b12.size (fun j hj => by cases hj; exact Nat.le_refl _)
  have i13 := i12.put (.int .i64 22) (.lit (.int .i64 ((111 : Nat) : Int)))
  have t13 := fun q => (t12 q).put i12 22 111
  clear o12 g13 b12 i12 t12
  obtain ⟨V14, r14, o14, g14⟩ := o13.update keyedInt Tryz.underlying123 (by unfold maxLen; omega) (key := .int .i64 23) (val := .func (.func 112) #[] #[]) (Maps.keyOf_int_mk Tryz.underlying3 (by decide)) (fnElem_mk 112)
  have b14 := b13.grown g14 b13.size (fun j hj => by cases hj; exact Nat.le_refl _)
  have i14 := i13.put (.int .i64 23) (.lit (.int .i64 ((112 : Nat) : Int)))
  have t14 := fun q => (t13 q).put i13 23 112
  clear o13 g14 b13 i13 t13
  obtain ⟨V15, r15, o15, g15⟩ := o14.update keyedInt Tryz.underlying123 (by unfold maxLen; omega) (key := .int .i64 24) (val := .func (.func 113) #[] #[]) (Maps.keyOf_int_mk Tryz.underlying3 (by decide)) (fnElem_mk 113)
  have b15 := b14.grown g15 b14.size (fun j hj => by cases hj; exact Nat.le_refl _)
  have i15 := i14.put (.int .i64 24) (.lit (.int .i64 ((113 : Nat) : Int)))
  have t15 := fun q => (t14 q).put i14 24 113
  clear o14 g15 b14 i14 t14
  obtain ⟨V16, r16, o16, g16⟩ := o15.update keyedInt Tryz.underlying123 (by unfold maxLen; omega) (key := .int .i64 30) (val := .func (.func 114) #[] #[]) (Maps.keyOf_int_mk Tryz.underlying3 (by decide)) (fnElem_mk 114)
  have b16 := b15.grown g16 b15.size (fun j hj => by cases hj; exact Nat.le_refl _)
  have i16 := i15.put (.int .i64 30) (.lit (.int .i64 ((114 : Nat) : Int)))
  have t16 := fun q => (t15 q).put i15 30 114
  clear o15 g16 b15 i15 t15
  obtain ⟨V17, r17, o17, g17⟩ := o16.update keyedInt Tryz.underlying123 (by unfold maxLen; omega) (key := .int .i64 31) (val := .func (.func 115) #[] #[]) (Maps.keyOf_int_mk Tryz.underlying3 (by decide)) (fnElem_mk 115)
  have b17 := b16.grown g17 b16.size (fun j hj => by cases hj; exact Nat.le_refl _)
  have i17 := i16.put (.int .i64 31) (.lit (.int .i64 ((115 : Nat) : Int)))
  have t17 := fun q => (t16 q).put i16 31 115
  clear o16 g17 b16 i16 t16
  obtain ⟨V18, r18, o18, g18⟩ := o17.update keyedInt Tryz.underlying123 (by unfold maxLen; omega) (key := .int .i64 38) (val := .func (.func 116) #[] #[]) (Maps.keyOf_int_mk Tryz.underlying3 (by decide)) (fnElem_mk 116)
  have b18 := b17.grown g18 b17.size (fun j hj => by cases hj; exact Nat.le_refl _)
  have i18 := i17.put (.int .i64 38) (.lit (.int .i64 ((116 : Nat) : Int)))
  have t18 := fun q => (t17 q).put i17 38 116
  clear o17 g18 b17 i17 t17
  obtain ⟨V19, r19, o19, g19⟩ := o18.update keyedInt Tryz.underlying123 (by unfold maxLen; omega) (key := .int .i64 39) (val := .func (.func 117) #[] #[]) (Maps.keyOf_int_mk Tryz.underlying3 (by decide)) (fnElem_mk 117)
  have b19 := b18.grown g19 b18.size (fun j hj => by cases hj; exact Nat.le_refl _)
  have i19 := i18.put (.int .i64 39) (.lit (.int .i64 ((117 : Nat) : Int)))
  have t19 := fun q => (t18 q).put i18 39 117
  clear o18 g19 b18 i18 t18
  obtain ⟨V20, r20, o20, g20⟩ := o19.update keyedInt Tryz.underlying123 (by unfold maxLen; omega) (key := .int .i64 40) (val := .func (.func 118) #[] #[]) (Maps.keyOf_int_mk Tryz.underlying3 (by decide)) (fnElem_mk 118)
  have b20 := b19.grown g20 b19.size (fun j hj => by cases hj; exact Nat.le_refl _)
  have i20 := i19.put (.int .i64 40) (.lit (.int .i64 ((118 : Nat) : Int)))
  have t20 := fun q => (t19 q).put i19 40 118
  clear o19 g20 b19 i19 t19
  have O := Lib.hid o20; have BB := Lib.hid b20; have TT := Lib.hid t20
  clear o20 b20 t20 i20
  go_enter Tryz.func72, Tryz.ntmps72
  go_wp2_with fail
  go_ret
  exact ⟨_, rfl, O.out, TT.out, BB.out⟩
end Go.Proofs.YtbpkdihonemogaaGreatDoor
