/- A step of the document's layer 18 as one function. -/
import Derived.Test.YtganbjgkobmdkaaDoorSweepRefA
import Derived.Test.YtganbjgkobmdkaaDoorSweepRefB
import Derived.Test.YtganbjgkobmdkaaDoorM2
namespace Go.Proofs.YtganbjgkobmdkaaDoor
open Go Go.RowKit
set_option maxRecDepth 100000
attribute [local go_sem ↓] Go.wp_at_zero Go.wp_at_succ

theorem nextSwept_U {C : Cf} {x : Co} (hx : x.U) : (nextSwept C x).U := by
  unfold nextSwept
  split
  · exact hx
  · exact ⟨hx.1, u64_zero⟩
theorem cellW_U (i : Int) : U64 (cellW i) := by unfold cellW U64; split <;> omega
theorem sweepS_U {C : Cf} {s : Dy} (h : s.U) (x : Co) (hx : x.U) : (sweepS C s x).1.U ∧ (sweepS C s x).2.1.U := by
  have h0 := u64_zero
  unfold sweepS
  split
  · refine ⟨h.act C 1 _ h0 h0, ?_⟩
    show Co.U (if _ then _ else _)
    split
    · exact hx
    split
    · exact hx
    · exact nextSwept_U hx
  split
  · exact ⟨h.act C 2 _ h0 h0, hx⟩
  split
  · exact ⟨h.act C 2 _ h0 h0, hx⟩
  split
  · exact ⟨h.act C 2 _ (cellW_U _) h0, nextSwept_U (x := { x with tl := x.c }) hx⟩
  split
  · exact ⟨h.act C 2 _ h0 h0, nextSwept_U hx⟩
  · exact ⟨h, hx⟩
theorem rsweep_c {w : World} {X : Nat} {va : Option Addr} {cap N : Nat} {C : Cf} {s : Dy} (hH : RAt w X va cap N C s) (hL : ∀ R, va = some ⟨R, 0, none⟩ → R < w.heap.size) (hr : Right C.a C.b C.c C.d) (_ : s.U) (x : Co) (_ : x.U) (hb : -1000000000000 ≤ x.c ∧ x.c ≤ 1000000000000 ∧ -1000000000000 ≤ x.cy ∧ x.cy ≤ 1000000000000) :
    Calls Tryd.prog 10 #[.pointer (some ⟨X, 0, none⟩), x.v] w (RP w X va cap N C (sweepS C s x).1 (.tuple #[(sweepS C s x).2.1.v, .int .i64 (sweepS C s x).2.2.1, .bool (sweepS C s x).2.2.2])) := by
  obtain ⟨l, j, c, m, xa, p, fd, tl, cy⟩ := x
  obtain ⟨hc1, hc2, hy1, hy2⟩ := hb
  dsimp only at hc1 hc2 hy1 hy2
  have hc := And.intro hc1 hc2; have hy := And.intro hy1 hy2
  clear hc1 hc2 hy1 hy2
  unfold sweepS nextSwept cycN ldP
  dsimp only
  by_cases e20 : l = 20
  · subst e20; rw [if_pos rfl]
    obtain ⟨T, hT⟩ : ∃ T, z5 C.n 1 (partP C.a C.b C.c C.d 2 c) (s.f (partP C.a C.b C.c C.d 2 c).toNat) = T := ⟨_, rfl⟩
    simp only [hT]
    by_cases h0 : T = 0
    · subst h0; simp only [if_true]; exact rs20_white hH hL hr j c m xa p fd tl cy 0 hT rfl
    by_cases h2 : T = 2
    · subst h2; rw [if_neg h0, if_neg h0]; simp only [if_true]; exact rs20_black hH hL hr j c m xa p fd tl cy 2 hT rfl
    rw [if_neg h0, if_neg h0, if_neg h2, if_neg h2]
    by_cases hm : c + 1 < C.a
    · simp only [if_pos hm]; exact rs20_more hH hL hr j c m xa p fd tl cy hc hy hm T hT h0 h2
    · simp only [if_neg hm]; exact rs20_over hH hL hr j c m xa p fd tl cy hc hy hm T hT h0 h2
  rw [if_neg e20]
  by_cases e21 : l = 21
  · subst e21; rw [if_pos rfl]
    exact rs21 hH hL hr j c m xa p fd tl cy
  rw [if_neg e21]
  by_cases e22 : l = 22
  · subst e22; rw [if_pos rfl]
    exact rs22 hH hL hr j c m xa p fd tl cy
  rw [if_neg e22]
  by_cases e23 : l = 23
  · subst e23; rw [if_pos rfl]
    by_cases hm : c + 1 < C.a
    · simp only [if_pos hm]; exact rs23_more hH hL hr j c m xa p fd tl cy hc hy hm
    · simp only [if_neg hm]; exact rs23_over hH hL hr j c m xa p fd tl cy hc hy hm
  rw [if_neg e23]
  by_cases e24 : l = 24
  · subst e24; rw [if_pos rfl]
    by_cases hm : c + 1 < C.a
    · simp only [if_pos hm]; exact rs24_more hH hL hr j c m xa p fd tl cy hc hy hm
    · simp only [if_neg hm]; exact rs24_over hH hL hr j c m xa p fd tl cy hc hy hm
  rw [if_neg e24]
  exact rs_other hH hL hr l j c m xa p fd tl cy e20 e21 e22 e23 e24
end Go.Proofs.YtganbjgkobmdkaaDoor
