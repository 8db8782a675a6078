/- A step of package pass is passS, for all lines. -/
import Derived.Test.YtipkkmmehjdmpaaDoorPassDoA
import Derived.Test.YtipkkmmehjdmpaaDoorPassDoL
import Derived.Test.YtipkkmmehjdmpaaDoorPassDoB
import Derived.Test.YtipkkmmehjdmpaaDoorPassRef
import Derived.Test.YtipkkmmehjdmpaaDoorPassGreyDo
namespace Go.Proofs.YtipkkmmehjdmpaaDoor
open Go Go.RowKit
set_option maxRecDepth 100000
attribute [local go_sem ↓] Go.wp_at_zero Go.wp_at_succ

theorem pass_c {w : World} {H A G : Nat} {C : Cf} {s : Dy} (hH : HAt w H A G C s) (hu : s.U) (hS : SpansAt w) (hr : Right C.a C.b C.c C.d) (hn : 0 < C.n) (x : Co) (hx : x.U) (hc : -1000000000000 ≤ x.c ∧ x.c ≤ 1000000000000) :
    Calls Tryd.prog 10 #[.pointer (some ⟨H, 0, none⟩), x.v] w (HP w H A G C (passS C s x).1 (.tuple #[(passS C s x).2.1.v, .bool (passS C s x).2.2])) := by
  obtain ⟨l, j, c, m, xa, p, fd, tl, cy⟩ := x
  obtain ⟨ha, _⟩ := hx
  dsimp only at hc ha
  obtain ⟨v, rfl, hv⟩ := u64_nat' ha
  unfold passS ldP
  dsimp only
  by_cases e3 : l = 3
  · subst e3; rw [if_pos rfl]
    exact pStep_3 hH hu hS hr hn j c m (v : Int) p fd tl cy
  rw [if_neg e3]
  by_cases e4 : l = 4
  · subst e4; rw [if_pos rfl]
    obtain ⟨u, hT, hu6⟩ := u64_nat' (z5_u64 (n := C.n) (k := 1) (i := (partP C.a C.b C.c C.d 2 c)) (hu (partP C.a C.b C.c C.d 2 c).toNat))
    simp only [hT, Int.toNat_natCast]
    by_cases h1 : u = 1
    · simp only [show (u : Int) = 1 by omega, if_true]; exact pStep_4_grey hH hu hS hr hn j c m (v : Int) p fd tl cy u hT h1
    · simp only [if_neg (show ¬ (u : Int) = 1 by omega)]; exact pStep_4_next hH hu hS hr hn j c m (v : Int) p fd tl cy hc u hT h1
  rw [if_neg e4]
  by_cases e5 : l = 5
  · subst e5; rw [if_pos rfl]
    obtain ⟨u, hT, hu6⟩ := u64_nat' (z5_u64 (n := C.n) (k := 1) (i := (partP C.a C.b C.c C.d 0 c)) (hu (partP C.a C.b C.c C.d 0 c).toNat))
    simp only [hT, Int.toNat_natCast]
    by_cases hcl : isC u
    · simp only [if_pos hcl]; exact pStep_5_cell hH hu hS hr hn j c m (v : Int) p fd tl cy u hu6 hT hcl
    · simp only [if_neg hcl]; exact pStep_5_no hH hu hS hr hn j c m (v : Int) p fd tl cy u hu6 hT hcl
  rw [if_neg e5]
  by_cases e6 : l = 6
  · subst e6; rw [if_pos rfl]
    simp only [Int.toNat_natCast]
    exact pStep_6 hH hu hS hr hn j c m p fd tl cy v hv
  rw [if_neg e6]
  by_cases e7 : l = 7
  · subst e7; rw [if_pos rfl]
    obtain ⟨u, hT, hu6⟩ := u64_nat' (z5_u64 (n := C.n) (k := 1) (i := (partP C.a C.b C.c C.d 1 c)) (hu (partP C.a C.b C.c C.d 1 c).toNat))
    simp only [hT, Int.toNat_natCast]
    by_cases hcl : isC u
    · simp only [if_pos hcl]; exact pStep_7_cell hH hu hS hr hn j c m (v : Int) p fd tl cy u hu6 hT hcl
    · simp only [if_neg hcl]; exact pStep_7_no hH hu hS hr hn j c m (v : Int) p fd tl cy u hu6 hT hcl
  rw [if_neg e7]
  by_cases e8 : l = 8
  · subst e8; rw [if_pos rfl]
    simp only [Int.toNat_natCast]
    exact pStep_8 hH hu hS hr hn j c m p fd tl cy v hv
  rw [if_neg e8]
  by_cases e9 : l = 9
  · subst e9; rw [if_pos rfl]
    exact pStep_9 hH hu hS hr hn j c m (v : Int) p fd tl cy hc
  rw [if_neg e9]
  exact pStep_other hH hu hS hr hn l j c m (v : Int) p fd tl cy e3 e4 e5 e6 e7 e8 e9
end Go.Proofs.YtipkkmmehjdmpaaDoor
