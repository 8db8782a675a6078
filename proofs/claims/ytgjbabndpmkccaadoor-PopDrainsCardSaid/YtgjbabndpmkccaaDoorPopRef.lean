/- A step of both as one function. -/
import Derived.Test.YtgjbabndpmkccaaDoorPopRefH
import Derived.Test.YtgjbabndpmkccaaDoorPopRefN
import Derived.Test.YtgjbabndpmkccaaDoorPopRefL
import Derived.Test.YtgjbabndpmkccaaDoorPopRefT
namespace Go.Proofs.YtgjbabndpmkccaaDoor
open Go Go.RowKit
set_option maxRecDepth 100000
attribute [local go_sem ↓] Go.wp_at_zero Go.wp_at_succ

/-- What line 35 loads. -/
def popN (C : Cf) (s : Dy) (m : Mu) : Int := z5 C.n 1 (fieldP C.a C.b C.c C.d m.m3.toNat 1) (s.f (fieldP C.a C.b C.c C.d m.m3.toNat 1).toNat)
/-- A step of layer 13: words and access, how far it is, whether it was the linearising step, whether it was a line of this layer. -/
def popS (C : Cf) (s : Dy) (m : Mu) : Dy × Mu × Bool × Bool :=
  if m.l = 34 then (s.act C 1 0 0 0, { m with l := 35, m3 := z5 C.n 1 0 (s.f 0) }, false, true)
  else if m.l = 35 then (s.act C 1 (fieldP C.a C.b C.c C.d m.m3.toNat 1) 0 0, (if isC (popN C s m).toNat then { m with l := 36, m4 := popN C s m } else { m with l := 41, m4 := popN C s m, rt := 5 }), !decide (isC (popN C s m).toNat), true)
  else if m.l = 36 then (s.act C 2 0 m.m4 0, { m with l := begL m.m4.toNat 37, p := begP m.m4.toNat, bk := begB m.m4.toNat 37 }, true, true)
  else (s, m, false, false)
theorem z5_u64 {n : Nat} {k i x : Int} (h : U64 x) : U64 (z5 n k i x) := by
  unfold z5
  by_cases e : okD n k i
  · rw [if_pos e]; exact h
  · rw [if_neg e]; exact u64_zero
theorem begP_u64 (v : Nat) (hv : v < 18446744073709551616) : U64 (begP v) := by
  unfold begP
  by_cases e : isC v
  · rw [if_pos e]; unfold U64; omega
  · rw [if_neg e]; exact u64_zero
theorem popS_U {C : Cf} {s : Dy} (h : s.U) (m : Mu) (hm : m.U) : (popS C s m).1.U ∧ (popS C s m).2.1.U := by
  have h0 := u64_zero
  unfold popS
  unfold Mu.U at hm
  split
  · exact ⟨h.act C 1 0 h0 h0, hm.1, hm.2.1, z5_u64 (h 0), hm.2.2.2.1, hm.2.2.2.2.1, hm.2.2.2.2.2⟩
  · split
    · refine ⟨h.act C 1 _ h0 h0, ?_⟩
      have hN : U64 (popN C s m) := z5_u64 (h _)
      split
      · exact ⟨hm.1, hm.2.1, hm.2.2.1, hN, hm.2.2.2.2.1, hm.2.2.2.2.2⟩
      · exact ⟨hm.1, hm.2.1, hm.2.2.1, hN, hm.2.2.2.2.1, hm.2.2.2.2.2⟩
    · split
      · refine ⟨h.act C 2 0 hm.2.2.2.1 h0, hm.1, hm.2.1, hm.2.2.1, hm.2.2.2.1, hm.2.2.2.2.1, begP_u64 _ ?_⟩
        obtain ⟨h1, h2⟩ := hm.2.2.2.1; omega
      · exact ⟨h, hm⟩
theorem pop_c {w : World} {H A G : Nat} {C : Cf} {s : Dy} (hH : HAt w H A G C s) (hu : s.U) (hS : SpansAt w) (m : Mu) (hm : m.U) :
    Calls Tryd.prog 9 #[.pointer (some ⟨H, 0, none⟩), m.v] w (HP w H A G C (popS C s m).1 (.tuple #[(popS C s m).2.1.v, .bool (popS C s m).2.2.1, .bool (popS C s m).2.2.2])) := by
  obtain ⟨l, q1, q2, q3, q4, m1, m2, m3, m4, m5, p, bk, rt⟩ := m
  unfold popS popN
  unfold Mu.U at hm
  dsimp only at hm ⊢
  by_cases e : l = 34
  · subst e; rw [if_pos rfl]; exact pStep_head hH hu p bk q1 q2 q3 q4 m1 m2 m3 m4 m5 rt
  · rw [if_neg e]
    by_cases e2 : l = 35
    · subst e2; rw [if_pos rfl]
      obtain ⟨v, rfl, hv⟩ := u64_nat' hm.2.2.1
      simp only [Int.toNat_natCast]
      obtain ⟨u, hT, hu6⟩ := u64_nat' (z5_u64 (n := C.n) (k := 1) (i := fieldP C.a C.b C.c C.d v 1) (hu (fieldP C.a C.b C.c C.d v 1).toNat))
      simp only [hT, Int.toNat_natCast]
      by_cases hc : isC u
      · simp only [if_pos hc, hc, decide_true, Bool.not_true]
        exact pStep_next hH hu hS v hv u hu6 hT hc p bk q1 q2 q3 q4 m1 m2 m4 m5 rt
      · simp only [if_neg hc, hc, decide_false, Bool.not_false]
        exact pStep_last hH hu hS v hv u hu6 hT hc p bk q1 q2 q3 q4 m1 m2 m4 m5 rt
    · rw [if_neg e2]
      by_cases e3 : l = 36
      · subst e3; rw [if_pos rfl]
        obtain ⟨v, rfl, hv⟩ := u64_nat' hm.2.2.2.1
        simp only [Int.toNat_natCast]
        exact pStep_take hH hu v hv p bk q1 q2 q3 q4 m1 m2 m3 m5 rt
      · rw [if_neg e3]; exact pStep_other hH l p bk q1 q2 q3 q4 m1 m2 m3 m4 m5 rt e e2 e3
theorem rpop_c {w : World} {X : Nat} {va : Option Addr} {cap N : Nat} {C : Cf} {s : Dy} (hH : RAt w X va cap N C s) (hL : ∀ R, va = some ⟨R, 0, none⟩ → R < w.heap.size) (hu : s.U) (hr : Right C.a C.b C.c C.d) (m : Mu) (hm : m.U) :
    Calls Tryd.prog 10 #[.pointer (some ⟨X, 0, none⟩), m.v] w (RP w X va cap N C (popS C s m).1 (.tuple #[(popS C s m).2.1.v, .bool (popS C s m).2.2.1, .bool (popS C s m).2.2.2])) := by
  obtain ⟨l, q1, q2, q3, q4, m1, m2, m3, m4, m5, p, bk, rt⟩ := m
  unfold popS popN
  unfold Mu.U at hm
  dsimp only at hm ⊢
  by_cases e : l = 34
  · subst e; rw [if_pos rfl]; exact rStep_head hH hL p bk q1 q2 q3 q4 m1 m2 m3 m4 m5 rt
  · rw [if_neg e]
    by_cases e2 : l = 35
    · subst e2; rw [if_pos rfl]
      obtain ⟨v, rfl, hv⟩ := u64_nat' hm.2.2.1
      simp only [Int.toNat_natCast]
      obtain ⟨u, hT, hu6⟩ := u64_nat' (z5_u64 (n := C.n) (k := 1) (i := fieldP C.a C.b C.c C.d v 1) (hu (fieldP C.a C.b C.c C.d v 1).toNat))
      simp only [hT, Int.toNat_natCast]
      by_cases hc : isC u
      · simp only [if_pos hc, hc, decide_true, Bool.not_true]
        exact rStep_next hH hL hr v hv u hu6 hT hc p bk q1 q2 q3 q4 m1 m2 m4 m5 rt
      · simp only [if_neg hc, hc, decide_false, Bool.not_false]
        exact rStep_last hH hL hr v hv u hu6 hT hc p bk q1 q2 q3 q4 m1 m2 m4 m5 rt
    · rw [if_neg e2]
      by_cases e3 : l = 36
      · subst e3; rw [if_pos rfl]
        obtain ⟨v, rfl, hv⟩ := u64_nat' hm.2.2.2.1
        simp only [Int.toNat_natCast]
        exact rStep_take hH hL v hv p bk q1 q2 q3 q4 m1 m2 m3 m5 rt
      · rw [if_neg e3]; exact rStep_other hH l p bk q1 q2 q3 q4 m1 m2 m3 m4 m5 rt e e2 e3
end Go.Proofs.YtgjbabndpmkccaaDoor
