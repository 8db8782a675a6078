/- Laid together: TickRef0, TickRef, GateMap, GateCalls. -/
import Derived.Test.YtbpooljohjkbjaaGreatDoorTickStep
import Derived.Test.YtbpooljohjkbjaaGreatDoorM1
import Derived.Lib.Hide
import Derived.Maps.OwnSet
import Derived.Test.YtbpooljohjkbjaaGreatDoorM4
/- A step of the document's layer 11 from every line. -/
namespace Go.Proofs.YtbpooljohjkbjaaGreatDoor
open Go Go.RowKit
set_option maxRecDepth 100000
attribute [local go_sem ↓] Go.wp_at_zero Go.wp_at_succ
end Go.Proofs.YtbpooljohjkbjaaGreatDoor
/- A step of both as one function. -/
namespace Go.Proofs.YtbpooljohjkbjaaGreatDoor
open Go Go.RowKit
set_option maxRecDepth 100000
attribute [local go_sem ↓] Go.wp_at_zero Go.wp_at_succ
def tickS (C : Cf) (s : Dy) (m : Mu) : Dy × Mu × Bool :=
  if m.l = 32 then (s.act C 4 3 1 0, { m with l := 33, m5 := z5 C.n 4 3 (s.f 3) }, true)
  else if m.l = 33 then (s.act C 1 4 0 0, (if z5 C.n 1 4 (s.f 4) = m.m5 then { m with l := 34 } else m), true)
  else if m.l = 37 then (s.act C 4 4 1 0, { m with l := 38 }, true)
  else if m.l = 41 then (s.act C 4 4 1 0, { m with l := 90 }, true)
  else (s, m, false)
theorem tickS_U {C : Cf} {s : Dy} (h : s.U) (m : Mu) : (tickS C s m).1.U := by
  unfold tickS
  have h1 : U64 1 := by unfold U64; omega
  split
  · exact h.act C 4 3 h1 u64_zero
  · split
    · exact h.act C 1 4 u64_zero u64_zero
    · split
      · exact h.act C 4 4 h1 u64_zero
      · split
        · exact h.act C 4 4 h1 u64_zero
        · exact h
theorem tick_c {w : World} {H A G : Nat} {C : Cf} {s : Dy} (hH : HAt w H A G C s) (hu : s.U) (m : Mu) :
    Calls Tryz.prog 109 #[.pointer (some ⟨H, 0, none⟩), m.v] w (HP w H A G C (tickS C s m).1 (.tuple #[(tickS C s m).2.1.v, .bool (tickS C s m).2.2])) := by
  obtain ⟨l, q1, q2, q3, q4, m1, m2, m3, m4, m5, p, bk, rt⟩ := m
  unfold tickS
  dsimp only
  by_cases e : l = 32
  · subst e; rw [if_pos rfl]; exact tStep_draw hH hu p bk q1 q2 q3 q4 m1 m2 m3 m4 m5 rt
  · rw [if_neg e]
    by_cases e2 : l = 33
    · subst e2; rw [if_pos rfl]
      by_cases hw : z5 C.n 1 4 (s.f 4) = m5
      · rw [if_pos hw]; exact tStep_won hH hu p bk q1 q2 q3 q4 m1 m2 m3 m4 m5 rt hw
      · rw [if_neg hw]; exact tStep_wait hH hu p bk q1 q2 q3 q4 m1 m2 m3 m4 m5 rt hw
    · rw [if_neg e2]
      by_cases e3 : l = 37
      · subst e3; rw [if_pos rfl]; exact tStep_give hH hu p bk q1 q2 q3 q4 m1 m2 m3 m4 m5 rt
      · rw [if_neg e3]
        by_cases e4 : l = 41
        · subst e4; rw [if_pos rfl]; exact tStep_up hH hu p bk q1 q2 q3 q4 m1 m2 m3 m4 m5 rt
        · rw [if_neg e4]; exact tStep_other hH l p bk q1 q2 q3 q4 m1 m2 m3 m4 m5 rt e e2 e3 e4
end Go.Proofs.YtbpooljohjkbjaaGreatDoor
/- First lines: a map that a function makes of a literal. -/
namespace Go.Proofs.YtbpooljohjkbjaaGreatDoor
open Go Go.RowKit
set_option maxRecDepth 100000
attribute [local go_sem ↓] Go.wp_at_zero Go.wp_at_succ
def firstL (k : Int) : Int :=
  if k = 1 then 10 else if k = 2 then 11 else if k = 3 then 30 else if k = 4 then 13 else if k = 5 then 13 else if k = 6 then 16 else if k = 7 then 16 else if k = 8 then 19 else if k = 9 then 20 else if k = 10 then 22 else if k = 11 then 24 else 90
def Tells (D : DataW Unit) (k : Int) (v : Option Int) : Prop := Maps.has D (.int .i64 k) = v.isSome ∧ D.atKey (.int .i64 k) (.lit (.int .i64 0)) = .lit (.int .i64 (v.getD 0))
theorem Tells.put {D : DataW Unit} {k : Int} {v : Option Int} (hD : Maps.IsMap D) (h : Tells D k v) (j x : Int) (hj : (Lit.int .i64 j).wf = true) : Tells (D.put (.int .i64 j) (.lit (.int .i64 x))) k (if k = j then some x else v) := by
  by_cases e : k = j
  · subst e
    rw [if_pos rfl]
    exact ⟨Maps.has_put_same hD (k := .int .i64 k) trivial _, Maps.atKey_put_same hD (k := .int .i64 k) trivial _ _⟩
  · rw [if_neg e]
    have hne : (Lit.int .i64 k) ≠ .int .i64 j := fun q => e (by injection q)
    exact ⟨(Maps.has_put_other hne _).trans h.1, (Maps.atKey_put_other hne _ _).trans h.2⟩
def lineO (k : Int) : Option Int := (if k = 11 then some 24 else (if k = 10 then some 22 else (if k = 9 then some 20 else (if k = 8 then some 19 else (if k = 7 then some 16 else (if k = 6 then some 16 else (if k = 5 then some 13 else (if k = 4 then some 13 else (if k = 3 then some 30 else (if k = 2 then some 11 else (if k = 1 then some 10 else none)))))))))))
theorem firstL_of (k : Int) : (match lineO k with | some v => v | none => (90 : Int)) = firstL k := by
  unfold firstL lineO
  by_cases e11 : k = 11
  · subst e11; rfl
  rw [if_neg e11]
  by_cases e10 : k = 10
  · subst e10; rfl
  rw [if_neg e10]
  by_cases e9 : k = 9
  · subst e9; rfl
  rw [if_neg e9]
  by_cases e8 : k = 8
  · subst e8; rfl
  rw [if_neg e8]
  by_cases e7 : k = 7
  · subst e7; rfl
  rw [if_neg e7]
  by_cases e6 : k = 6
  · subst e6; rfl
  rw [if_neg e6]
  by_cases e5 : k = 5
  · subst e5; rfl
  rw [if_neg e5]
  by_cases e4 : k = 4
  · subst e4; rfl
  rw [if_neg e4]
  by_cases e3 : k = 3
  · subst e3; rfl
  rw [if_neg e3]
  by_cases e2 : k = 2
  · subst e2; rfl
  rw [if_neg e2]
  by_cases e1 : k = 1
  · subst e1; rfl
  rw [if_neg e1]
  rw [if_neg e1, if_neg e2, if_neg e3, if_neg e4, if_neg e5, if_neg e6, if_neg e7, if_neg e8, if_neg e9, if_neg e10, if_neg e11]
theorem keyedInt : Maps.Keyed Tryz.prog 3 := Maps.int_keyed Tryz.underlying3
theorem zeroInt (w : World) : (zeroValue 3).run Tryz.prog w = .ok (.int .i64 0) w := by kernel_rfl
def LinesPost (w : World) (e : Ending) (w' : World) : Prop := ∃ D : DataW Unit, e = .returned (.map (some w.heap.size)) ∧ w'.ownsMap Tryz.prog 3 (plainElem Tryz.prog 3) w.heap.size 11 D ∧ (∀ k, Tells D k (lineO k)) ∧ Below w.heap.size w w'
set_option maxHeartbeats 1600000 in
theorem lines_c (w : World) : Calls Tryz.prog 178 #[] w (LinesPost w) := by
  have hmm := @run_makeMap Tryz.prog
  have o0 := World.ownsMap_made (H := Unit) w Tryz.prog 3 (plainElem Tryz.prog 3)
  have b0 : Below w.heap.size w (w.alloc (.map #[] 0)) := below_new w _
  have i0 : Maps.IsMap (.map [] : DataW Unit) := Maps.isMap_empty
  have t0 : ∀ k, Tells (.map [] : DataW Unit) k none := fun k => ⟨rfl, rfl⟩
  obtain ⟨V1, r1, o1, g1⟩ := o0.update keyedInt Tryz.underlying206 (by unfold maxLen; omega) (key := .int .i64 1) (val := .int .i64 10) (Maps.keyOf_int_mk Tryz.underlying3 (by decide)) (plainElem_int Tryz.underlying3 (by decide))
  have b1 := b0.grown g1 b0.size (fun j hj => by cases hj; exact Nat.le_refl _)
  have i1 := i0.put (.int .i64 1) (.lit (.int .i64 10))
  have t1 := fun q => (t0 q).put i0 1 10 (by decide)
  clear o0 g1 b0 i0 t0
  obtain ⟨V2, r2, o2, g2⟩ := o1.update keyedInt Tryz.underlying206 (by unfold maxLen; omega) (key := .int .i64 2) (val := .int .i64 11) (Maps.keyOf_int_mk Tryz.underlying3 (by decide)) (plainElem_int Tryz.underlying3 (by decide))
  have b2 := b1.grown g2 b1.size (fun j hj => by cases hj; exact Nat.le_refl _)
  have i2 := i1.put (.int .i64 2) (.lit (.int .i64 11))
  have t2 := fun q => (t1 q).put i1 2 11 (by decide)
  clear o1 g2 b1 i1 t1
  obtain ⟨V3, r3, o3, g3⟩ := o2.update keyedInt Tryz.underlying206 (by unfold maxLen; omega) (key := .int .i64 3) (val := .int .i64 30) (Maps.keyOf_int_mk Tryz.underlying3 (by decide)) (plainElem_int Tryz.underlying3 (by decide))
  have b3 := b2.grown g3 b2.size (fun j hj => by cases hj; exact Nat.le_refl _)
  have i3 := i2.put (.int .i64 3) (.lit (.int .i64 30))
  have t3 := fun q => (t2 q).put i2 3 30 (by decide)
  clear o2 g3 b2 i2 t2
  obtain ⟨V4, r4, o4, g4⟩ := o3.update keyedInt Tryz.underlying206 (by unfold maxLen; omega) (key := .int .i64 4) (val := .int .i64 13) (Maps.keyOf_int_mk Tryz.underlying3 (by decide)) (plainElem_int Tryz.underlying3 (by decide))
  have b4 := b3.grown g4 b3.size (fun j hj => by cases hj; exact Nat.le_refl _)
  have i4 := i3.put (.int .i64 4) (.lit (.int .i64 13))
  have t4 := fun q => (t3 q).put i3 4 13 (by decide)
  clear o3 g4 b3 i3 t3
  obtain ⟨V5, r5, o5, g5⟩ := o4.update keyedInt Tryz.underlying206 (by unfold maxLen; omega) (key := .int .i64 5) (val := .int .i64 13) (Maps.keyOf_int_mk Tryz.underlying3 (by decide)) (plainElem_int Tryz.underlying3 (by decide))
  have b5 := b4.grown g5 b4.size (fun j hj => by cases hj; exact Nat.le_refl _)
  have i5 := i4.put (.int .i64 5) (.lit (.int .i64 13))
  have t5 := fun q => (t4 q).put i4 5 13 (by decide)
  clear o4 g5 b4 i4 t4
  obtain ⟨V6, r6, o6, g6⟩ := o5.update keyedInt Tryz.underlying206 (by unfold maxLen; omega) (key := .int .i64 6) (val := .int .i64 16) (Maps.keyOf_int_mk Tryz.underlying3 (by decide)) (plainElem_int Tryz.underlying3 (by decide))
  have b6 := b5.grown g6 b5.size (fun j hj => by cases hj; exact Nat.le_refl _)
  have i6 := i5.put (.int .i64 6) (.lit (.int .i64 16))
  have t6 := fun q => (t5 q).put i5 6 16 (by decide)
  clear o5 g6 b5 i5 t5
  obtain ⟨V7, r7, o7, g7⟩ := o6.update keyedInt Tryz.underlying206 (by unfold maxLen; omega) (key := .int .i64 7) (val := .int .i64 16) (Maps.keyOf_int_mk Tryz.underlying3 (by decide)) (plainElem_int Tryz.underlying3 (by decide))
  have b7 := b6.grown g7 b6.size (fun j hj => by cases hj; exact Nat.le_refl _)
  have i7 := i6.put (.int .i64 7) (.lit (.int .i64 16))
  have t7 := fun q => (t6 q).put i6 7 16 (by decide)
  clear o6 g7 b6 i6 t6
  obtain ⟨V8, r8, o8, g8⟩ := o7.update keyedInt Tryz.underlying206 (by unfold maxLen; omega) (key := .int .i64 8) (val := .int .i64 19) (Maps.keyOf_int_mk Tryz.underlying3 (by decide)) (plainElem_int Tryz.underlying3 (by decide))
  have b8 := b7.grown g8 b7.size (fun j hj => by cases hj; exact Nat.le_refl _)
  have i8 := i7.put (.int .i64 8) (.lit (.int .i64 19))
  have t8 := fun q => (t7 q).put i7 8 19 (by decide)
  clear o7 g8 b7 i7 t7
  obtain ⟨V9, r9, o9, g9⟩ := o8.update keyedInt Tryz.underlying206 (by unfold maxLen; omega) (key := .int .i64 9) (val := .int .i64 20) (Maps.keyOf_int_mk Tryz.underlying3 (by decide)) (plainElem_int Tryz.underlying3 (by decide))
  have b9 := b8.grown g9 b8.size (fun j hj => by cases hj; exact Nat.le_refl _)
  have i9 := i8.put (.int .i64 9) (.lit (.int .i64 20))
  have t9 := fun q => (t8 q).put i8 9 20 (by decide)
  clear o8 g9 b8 i8 t8
  obtain ⟨V10, r10, o10, g10⟩ := o9.update keyedInt Tryz.underlying206 (by unfold maxLen; omega) (key := .int .i64 10) (val := .int .i64 22) (Maps.keyOf_int_mk Tryz.underlying3 (by decide)) (plainElem_int Tryz.underlying3 (by decide))
  have b10 := b9.grown g10 b9.size (fun j hj => by cases hj; exact Nat.le_refl _)
  have i10 := i9.put (.int .i64 10) (.lit (.int .i64 22))
  have t10 := fun q => (t9 q).put i9 10 22 (by decide)
  clear o9 g10 b9 i9 t9
  obtain ⟨V11, r11, o11, g11⟩ := o10.update keyedInt Tryz.underlying206 (by unfold maxLen; omega) (key := .int .i64 11) (val := .int .i64 24) (Maps.keyOf_int_mk Tryz.underlying3 (by decide)) (plainElem_int Tryz.underlying3 (by decide))
  have b11 := b10.grown g11 b10.size (fun j hj => by cases hj; exact Nat.le_refl _)
  have i11 := i10.put (.int .i64 11) (.lit (.int .i64 24))
  have t11 := fun q => (t10 q).put i10 11 24 (by decide)
  clear o10 g11 b10 i10 t10
  have O := Lib.hid o11; have BB := Lib.hid b11; have TT := Lib.hid t11
  clear o11 b11 t11 i11
  go_enter Tryz.func178, Tryz.ntmps178
  go_wp2_with fail
  go_ret
  exact ⟨_, rfl, O.out, TT.out, BB.out⟩
set_option maxHeartbeats 1600000 in
theorem First_c (k : Int) (hk : -9223372036854775808 ≤ k ∧ k ≤ 9223372036854775807) (w : World) :
    Calls Tryz.prog 140 #[.int .i64 k] w fun e w' => e = .returned (.int .i64 (firstL k)) ∧ Below w.heap.size w w' := by
  have HL := Lib.hid (lines_c w)
  have hf := firstL_of k
  generalize firstL k = z at *
  go_enter Tryz.func140, Tryz.ntmps140
  go_wp2_with fail
  refine HL.out.mono ?_
  rintro e V ⟨D, rfl, ho, ht, hb⟩
  obtain ⟨u, ps, hrun, hv⟩ := ho.look_ok keyedInt Tryz.underlying206 (zeroInt V) (plainElem_int Tryz.underlying3 (by decide)) (Maps.keyOf_int_mk Tryz.underlying3 (WalkArith.wf_i64 hk))
  obtain ⟨c, rfl, hc, _⟩ := plainElem_int_inv Tryz.underlying3 hv
  have ht := ht k
  generalize lineO k = O at hf ht
  obtain ⟨t1, t2⟩ := ht
  rw [t1] at hrun
  rw [t2] at hc
  have HB := Lib.hid hb
  clear hv t1 t2 ho hb
  rcases O with _ | x
  · have hrun : (Instr.lookup 206 (.map (some w.heap.size)) (.int .i64 k) true).run Tryz.prog V = .ok (.tuple #[.int .i64 c, .bool false]) V := hrun
    have hf : (90 : Int) = z := hf
    subst hf
    clear hc
    go_wp2_with fail
    go_ret
    exact ⟨rfl, HB.out⟩
  · have hrun : (Instr.lookup 206 (.map (some w.heap.size)) (.int .i64 k) true).run Tryz.prog V = .ok (.tuple #[.int .i64 c, .bool true]) V := hrun
    have hc : x = c := by have := congrArg Prod.fst hc; simpa using this
    subst hc
    have hf : x = z := hf
    subst hf
    go_wp2_with fail
    go_ret
    exact ⟨rfl, HB.out⟩
end Go.Proofs.YtbpooljohjkbjaaGreatDoor
/- Package gate's calls but for Step: look, Inside, Begin, Says. -/
namespace Go.Proofs.YtbpooljohjkbjaaGreatDoor
open Go Go.RowKit
set_option maxRecDepth 100000
attribute [local go_sem ↓] Go.wp_at_zero Go.wp_at_succ
theorem look_c {w : World} {H A G : Nat} {C : Cf} {s : Dy} (hH : HAt w H A G C s) (hu : s.U) (p q : Int) :
    Calls Tryz.prog 139 #[.pointer (some ⟨H, 0, none⟩), .int .i64 p, .int .i64 q] w (HP w H A G C (s.act C 1 1 0 0) (.int .i64 (if z5 C.n 1 1 (s.f 1) = 0 then p else q))) := by
  have HD : Hid (Calls Tryz.prog 123 #[.pointer (some ⟨H, 0, none⟩), .int .i64 1] w (HP w H A G C (s.act C 1 1 0 0) (.int .u64 (z5 C.n 1 1 (s.f 1))))) := Lib.hid (hLoad_c (w := w) hH hu 1)
  generalize (s.act C 1 1 0 0) = s' at *
  generalize (z5 C.n 1 1 (s.f 1)) = T at *
  clear hH hu
  by_cases h : T = 0
  · subst h
    rw [if_pos rfl]
    go_enter Tryz.func139, Tryz.ntmps139
    go_wp2_with fail
    refine HD.out.mono ?_
    rintro e V2 ⟨rfl, hF, hs⟩
    have HF := Lib.hid hF; have HQ := Lib.hid hs
    clear hF hs HD
    go_wp2_with fail
    go_ret
    exact ⟨rfl, HF.out, HQ.out⟩
  · rw [if_neg h]
    have h0 : (T == 0) = false := by simpa using h
    go_enter Tryz.func139, Tryz.ntmps139
    go_wp2_with fail
    refine HD.out.mono ?_
    rintro e V2 ⟨rfl, hF, hs⟩
    have HF := Lib.hid hF; have HQ := Lib.hid hs
    clear hF hs HD
    go_wp2_with fail
    go_ret
    exact ⟨rfl, HF.out, HQ.out⟩
theorem gBegin_c (q1 q2 q3 q4 : Int) (w : World) :
    Calls Tryz.prog 49 #[.agg #[.int .i64 q1, .int .i64 q2, .int .i64 q3, .int .i64 q4]] w fun e w' => e = .returned (mutV 1 0 0 q1 q2 q3 q4 0 0 0 0 0 0) ∧ Below w.heap.size w w' := by
  go_enter Tryz.func49, Tryz.ntmps49
  go_wp2_with fail
  refine bodyPost_ret (v := (mutV 1 0 0 q1 q2 q3 q4 0 0 0 0 0 0)) (by simp [results, Tryz.f49, go_sem]) rfl ?_
  refine ⟨rfl, ?_⟩
  exact below_on (below_new _ _) _
end Go.Proofs.YtbpooljohjkbjaaGreatDoor
