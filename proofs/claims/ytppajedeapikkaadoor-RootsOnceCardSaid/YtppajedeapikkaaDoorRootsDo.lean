/- A step of both as one function. -/
import Derived.Test.YtppajedeapikkaaDoorRootsStepA
import Derived.Test.YtppajedeapikkaaDoorRootsStepB
import Derived.Test.YtppajedeapikkaaDoorRootsStepC
import Derived.Test.YtppajedeapikkaaDoorRootsRefA
import Derived.Test.YtppajedeapikkaaDoorRootsRefB
namespace Go.Proofs.YtppajedeapikkaaDoor
open Go Go.RowKit
set_option maxRecDepth 100000
attribute [local go_sem ↓] Go.wp_at_zero Go.wp_at_succ

theorem rootS_U {C : Cf} {s : Dy} (h : s.U) (x : Co) (hx : x.U) : (rootS C s x).1.U ∧ (rootS C s x).2.1.U := by
  have h0 := u64_zero
  have h1 : U64 1 := by unfold U64; omega
  have hn : (nextRoot C x).U := by unfold nextRoot; exact ⟨hx.1, h0⟩
  unfold rootS
  split
  · refine ⟨h.act C 1 _ h0 h0, ?_⟩
    show Co.U (if _ then _ else _)
    split
    · exact ⟨hx.1, z5_u64 (h _)⟩
    · exact hn
  · split
    · exact ⟨h.act C 3 _ h0 h1, hn⟩
    · exact ⟨h, hx⟩
theorem root_c {w : World} {H A G : Nat} {C : Cf} {s : Dy} (hH : HAt w H A G C s) (hu : s.U) (hS : SpansAt w) (hr : Right C.a C.b C.c C.d) (hn : 0 < C.n) (x : Co) (hx : x.U) (hj : -1000000000000 ≤ x.j ∧ x.j ≤ 1000000000000) :
    Calls Tryd.prog 12 #[.pointer (some ⟨H, 0, none⟩), x.v] w (HP w H A G C (rootS C s x).1 (.tuple #[(rootS C s x).2.1.v, .bool (rootS C s x).2.2])) := by
  obtain ⟨l, j, c, m, a, p, fd, tl, cy⟩ := x
  obtain ⟨_, hp⟩ := hx
  dsimp only at hj hp
  obtain ⟨v, rfl, hv⟩ := u64_nat' hp
  unfold rootS ldP
  dsimp only
  by_cases e : l = 1
  · subst e; rw [if_pos rfl]
    obtain ⟨u, hT, hu6⟩ := u64_nat' (z5_u64 (n := C.n) (k := 1) (i := (rootP C.a C.b C.c C.d j)) (hu (rootP C.a C.b C.c C.d j).toNat))
    simp only [hT, Int.toNat_natCast]
    by_cases hc : isC u
    · simp only [if_pos hc]; exact roStep_cell hH hu hS hr j c m a (v : Int) fd tl cy hn hj u hu6 hT hc
    · simp only [if_neg hc]; exact roStep_no hH hu hS hr j c m a (v : Int) fd tl cy hn hj u hu6 hT hc
  rw [if_neg e]
  by_cases e2 : l = 2
  · subst e2; rw [if_pos rfl]; simp only [Int.toNat_natCast]; exact roStep_shade hH hu hS hr j c m a fd tl cy hn hj v hv
  rw [if_neg e2]; exact roStep_other hH hu hS hr l j c m a fd tl cy hn e e2 v hv
theorem rroot_c {w : World} {X : Nat} {va : Option Addr} {cap N : Nat} {C : Cf} {s : Dy} (hH : RAt w X va cap N C s) (hL : ∀ R, va = some ⟨R, 0, none⟩ → R < w.heap.size) (hr : Right C.a C.b C.c C.d) (hu : s.U) (x : Co) (hx : x.U) (hj : -1000000000000 ≤ x.j ∧ x.j ≤ 1000000000000) :
    Calls Tryd.prog 13 #[.pointer (some ⟨X, 0, none⟩), x.v] w (RP w X va cap N C (rootS C s x).1 (.tuple #[(rootS C s x).2.1.v, .bool (rootS C s x).2.2])) := by
  obtain ⟨l, j, c, m, a, p, fd, tl, cy⟩ := x
  obtain ⟨_, hp⟩ := hx
  dsimp only at hj hp
  obtain ⟨v, rfl, hv⟩ := u64_nat' hp
  unfold rootS ldP
  dsimp only
  by_cases e : l = 1
  · subst e; rw [if_pos rfl]
    obtain ⟨u, hT, hu6⟩ := u64_nat' (z5_u64 (n := C.n) (k := 1) (i := (rootP C.a C.b C.c C.d j)) (hu (rootP C.a C.b C.c C.d j).toNat))
    simp only [hT, Int.toNat_natCast]
    by_cases hc : isC u
    · simp only [if_pos hc]; exact rroStep_cell hH hL hr j c m a (v : Int) fd tl cy hj u hu6 hT hc
    · simp only [if_neg hc]; unfold nextRoot rootsN
      by_cases hm : j + 1 < (1 + C.d + C.b * C.c)
      · simp only [if_pos hm]; exact rroStep_more hH hL hr j c m a (v : Int) fd tl cy hj u hu6 hT hc hm
      · simp only [if_neg hm]; exact rroStep_over hH hL hr j c m a (v : Int) fd tl cy hj u hu6 hT hc hm
  rw [if_neg e]
  by_cases e2 : l = 2
  · subst e2; rw [if_pos rfl]; simp only [Int.toNat_natCast]; unfold nextRoot rootsN
    by_cases hm : j + 1 < (1 + C.d + C.b * C.c)
    · simp only [if_pos hm]; exact rroStep_shade_more hH hL hr j c m a fd tl cy hj v hv hm
    · simp only [if_neg hm]; exact rroStep_shade_over hH hL hr j c m a fd tl cy hj v hv hm
  rw [if_neg e2]; exact rroStep_other hH hL hr l j c m a (v : Int) fd tl cy e e2
end Go.Proofs.YtppajedeapikkaaDoor
