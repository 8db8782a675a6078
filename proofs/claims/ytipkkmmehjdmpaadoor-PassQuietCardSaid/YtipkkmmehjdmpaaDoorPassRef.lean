/- A step of the document's layer 16 as one function. -/
import Derived.Test.YtipkkmmehjdmpaaDoorPassRefA
import Derived.Test.YtipkkmmehjdmpaaDoorPassRefB
import Derived.Test.YtipkkmmehjdmpaaDoorColPure
namespace Go.Proofs.YtipkkmmehjdmpaaDoor
open Go Go.RowKit
set_option maxRecDepth 100000
attribute [local go_sem ↓] Go.wp_at_zero Go.wp_at_succ

theorem nextCell_U (C : Cf) (x : Co) (hx : x.U) : (nextCell C x).U := by
  unfold nextCell
  split
  · exact hx
  · split <;> exact hx
theorem passS_U {C : Cf} {s : Dy} (h : s.U) (x : Co) (hx : x.U) : (passS C s x).1.U ∧ (passS C s x).2.1.U := by
  have h0 := u64_zero
  have h1 : U64 1 := by unfold U64; omega
  have h2 : U64 2 := by unfold U64; omega
  unfold passS
  split
  · exact ⟨h.act C 2 _ h0 h0, hx⟩
  split
  · refine ⟨h.act C 1 _ h0 h0, ?_⟩
    show Co.U (if _ then _ else _)
    split
    · exact hx
    · exact nextCell_U C x hx
  split
  · exact ⟨h.act C 1 _ h0 h0, z5_u64 (h _), hx.2⟩
  split
  · exact ⟨h.act C 3 _ h0 h1, hx⟩
  split
  · exact ⟨h.act C 1 _ h0 h0, z5_u64 (h _), hx.2⟩
  split
  · exact ⟨h.act C 3 _ h0 h1, hx⟩
  split
  · exact ⟨h.act C 2 _ h2 h0, nextCell_U C _ ⟨h0, hx.2⟩⟩
  · exact ⟨h, hx⟩
theorem rpass_c {w : World} {X : Nat} {va : Option Addr} {cap N : Nat} {C : Cf} {s : Dy} (hH : RAt w X va cap N C s) (hL : ∀ R, va = some ⟨R, 0, none⟩ → R < w.heap.size) (hr : Right C.a C.b C.c C.d) (hu : s.U) (x : Co) (hx : x.U) (hc : -1000000000000 ≤ x.c ∧ x.c ≤ 1000000000000) :
    Calls Tryd.prog 11 #[.pointer (some ⟨X, 0, none⟩), x.v] w (RP w X va cap N C (passS C s x).1 (.tuple #[(passS C s x).2.1.v, .bool (passS C s x).2.2])) := by
  obtain ⟨l, j, c, m, xa, p, fd, tl, cy⟩ := x
  obtain ⟨ha, _⟩ := hx
  dsimp only at hc ha
  obtain ⟨v, rfl, hv⟩ := u64_nat' ha
  unfold passS ldP
  dsimp only
  by_cases e3 : l = 3
  · subst e3; rw [if_pos rfl]
    exact rpStep_3 hH hL hr j c m (v : Int) p fd tl cy
  rw [if_neg e3]
  by_cases e4 : l = 4
  · subst e4; rw [if_pos rfl]
    obtain ⟨u, hT, hu6⟩ := u64_nat' (z5_u64 (n := C.n) (k := 1) (i := (partP C.a C.b C.c C.d 2 c)) (hu (partP C.a C.b C.c C.d 2 c).toNat))
    simp only [hT]
    by_cases h1 : u = 1
    · simp only [show (u : Int) = 1 by omega, if_true]; exact rpStep_4_grey hH hL hr j c m (v : Int) p fd tl cy u hT h1
    · simp only [if_neg (show ¬ (u : Int) = 1 by omega)]; exact rpStep_4_next hH hL hr j c m (v : Int) p fd tl cy hc u hT h1
  rw [if_neg e4]
  by_cases e5 : l = 5
  · subst e5; rw [if_pos rfl]
    obtain ⟨u, hT, hu6⟩ := u64_nat' (z5_u64 (n := C.n) (k := 1) (i := (partP C.a C.b C.c C.d 0 c)) (hu (partP C.a C.b C.c C.d 0 c).toNat))
    simp only [hT, Int.toNat_natCast]
    by_cases hcl : isC u
    · simp only [if_pos hcl]; exact rpStep_5_cell hH hL hr j c m (v : Int) p fd tl cy u hu6 hT hcl
    · simp only [if_neg hcl]; exact rpStep_5_no hH hL hr j c m (v : Int) p fd tl cy u hu6 hT hcl
  rw [if_neg e5]
  by_cases e6 : l = 6
  · subst e6; rw [if_pos rfl]
    simp only [Int.toNat_natCast]
    exact rpStep_6 hH hL hr j c m p fd tl cy v hv
  rw [if_neg e6]
  by_cases e7 : l = 7
  · subst e7; rw [if_pos rfl]
    obtain ⟨u, hT, hu6⟩ := u64_nat' (z5_u64 (n := C.n) (k := 1) (i := (partP C.a C.b C.c C.d 1 c)) (hu (partP C.a C.b C.c C.d 1 c).toNat))
    simp only [hT, Int.toNat_natCast]
    by_cases hcl : isC u
    · simp only [if_pos hcl]; exact rpStep_7_cell hH hL hr j c m (v : Int) p fd tl cy u hu6 hT hcl
    · simp only [if_neg hcl]; exact rpStep_7_no hH hL hr j c m (v : Int) p fd tl cy u hu6 hT hcl
  rw [if_neg e7]
  by_cases e8 : l = 8
  · subst e8; rw [if_pos rfl]
    simp only [Int.toNat_natCast]
    exact rpStep_8 hH hL hr j c m p fd tl cy v hv
  rw [if_neg e8]
  by_cases e9 : l = 9
  · subst e9; rw [if_pos rfl]
    exact rpStep_9 hH hL hr j c m (v : Int) p fd tl cy hc
  rw [if_neg e9]
  exact rpStep_other hH hL hr l j c m (v : Int) p fd tl cy e3 e4 e5 e6 e7 e8 e9
end Go.Proofs.YtipkkmmehjdmpaaDoor
