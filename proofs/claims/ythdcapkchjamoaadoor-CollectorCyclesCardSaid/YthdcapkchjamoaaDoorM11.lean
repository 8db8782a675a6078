/- Laid together: BarRefA, BarRefB, BarRef17, BarDo17. -/
import Derived.Test.YthdcapkchjamoaaDoorColF
import Derived.Test.YthdcapkchjamoaaDoorPlaceRef
import Derived.Deep.CutRange
import Derived.Test.YthdcapkchjamoaaDoorM6
import Derived.Test.YthdcapkchjamoaaDoorBarDoA
import Derived.Test.YthdcapkchjamoaaDoorBarDoB
/- The document's layer 17: looks at an in. -/
namespace Go.Proofs.YthdcapkchjamoaaDoor
open Go Go.RowKit
set_option maxRecDepth 100000
attribute [local go_sem ↓] Go.wp_at_zero Go.wp_at_succ

end Go.Proofs.YthdcapkchjamoaaDoor
/- The document's layer 17: the gate, dirty, and any other line. -/
namespace Go.Proofs.YthdcapkchjamoaaDoor
open Go Go.RowKit
set_option maxRecDepth 100000
attribute [local go_sem ↓] Go.wp_at_zero Go.wp_at_succ

end Go.Proofs.YthdcapkchjamoaaDoor
/- A step of the document's layer 17 as one function. -/
namespace Go.Proofs.YthdcapkchjamoaaDoor
open Go Go.RowKit
set_option maxRecDepth 100000
attribute [local go_sem ↓] Go.wp_at_zero Go.wp_at_succ

theorem nextMut_U (C : Cf) (x : Co) (hx : x.U) (n k : Int) : (nextMut C x n k).U := by
  unfold nextMut
  split <;> exact hx
theorem shutS_U {C : Cf} {s : Dy} (h : s.U) (x : Co) (hx : x.U) : (shutS C s x).1.U ∧ (shutS C s x).2.1.U := by
  have h0 := u64_zero
  have h1 : U64 1 := by unfold U64; omega
  have hl : U64 (ldP C s (inP C.a C.b C.c C.d x.m)) := z5_u64 (h _)
  unfold shutS
  split
  · refine ⟨h.act C 1 _ h0 h0, ?_⟩
    show Co.U (if _ then _ else _)
    split
    · exact ⟨hl, hx.2⟩
    · exact nextMut_U C { x with a := 0 } ⟨h0, hx.2⟩ _ _
  split
  · refine ⟨h.act C 1 _ h0 h0, ?_⟩
    show Co.U (if _ then _ else _)
    split
    · exact ⟨hl, hx.2⟩
    · exact nextMut_U C { x with a := 0 } ⟨h0, hx.2⟩ _ _
  split
  · exact ⟨h.act C 2 _ h1 h0, hx⟩
  split
  · refine ⟨h.act C 1 _ h0 h0, ?_⟩
    show Co.U (if _ then _ else _)
    split
    · exact hx
    · exact nextMut_U C _ hx _ _
  split
  · refine ⟨h.act C 1 _ h0 h0, ?_⟩
    show Co.U (if _ then _ else _)
    split <;> exact hx
  split
  · exact ⟨h.act C 2 _ h0 h0, hx⟩
  split
  · exact ⟨h.act C 2 _ h0 h0, hx⟩
  · exact ⟨h, hx⟩
theorem nextMut_m {C : Cf} {x : Co} (h : -1000000 ≤ x.m ∧ x.m ≤ 1000000) (hb : C.b ≤ 100) (n k : Int) : -1000000 ≤ (nextMut C x n k).m ∧ (nextMut C x n k).m ≤ 1000000 := by
  unfold nextMut
  split <;> (dsimp only; omega)
theorem shutS_m {C : Cf} {s : Dy} {x : Co} (h : -1000000 ≤ x.m ∧ x.m ≤ 1000000) (hb : C.b ≤ 100) : -1000000 ≤ (shutS C s x).2.1.m ∧ (shutS C s x).2.1.m ≤ 1000000 := by
  have hz : ∀ n k, -1000000 ≤ (nextMut C { x with a := 0 } n k).m ∧ (nextMut C { x with a := 0 } n k).m ≤ 1000000 := fun n k => nextMut_m (x := { x with a := 0 }) h hb n k
  have hx : ∀ n k, -1000000 ≤ (nextMut C x n k).m ∧ (nextMut C x n k).m ≤ 1000000 := fun n k => nextMut_m h hb n k
  unfold shutS
  repeat' split
  all_goals first | exact h | exact hz _ _ | exact hx _ _
end Go.Proofs.YthdcapkchjamoaaDoor
/- A step of the program's layer 17 as one function; Shut. -/
namespace Go.Proofs.YthdcapkchjamoaaDoor
open Go Go.RowKit
set_option maxRecDepth 100000
attribute [local go_sem ↓] Go.wp_at_zero Go.wp_at_succ

theorem bar17_c {w : World} {H A G : Nat} {C : Cf} {s : Dy} (hH : HAt w H A G C s) (hu : s.U) (hS : SpansAt w) (hr : Right C.a C.b C.c C.d) (hn : 0 < C.n) (x : Co) (hx : x.U) (hm : -1000000000000 ≤ x.m ∧ x.m ≤ 1000000000000) :
    Calls Tryd.prog 60 #[.pointer (some ⟨H, 0, none⟩), x.v] w (HP w H A G C (shutS C s x).1 (.tuple #[(shutS C s x).2.1.v, .bool (shutS C s x).2.2.1, .bool (shutS C s x).2.2.2])) := by
  obtain ⟨l, j, c, m, xa, p, fd, tl, cy⟩ := x
  obtain ⟨ha, _⟩ := hx
  dsimp only at hm ha
  obtain ⟨v, rfl, hv⟩ := u64_nat' ha
  unfold shutS ldP
  dsimp only
  by_cases e10 : l = 10
  · subst e10; rw [if_pos rfl]
    obtain ⟨u, hT, hu6⟩ := u64_nat' (z5_u64 (n := C.n) (k := 1) (i := (inP C.a C.b C.c C.d m)) (hu (inP C.a C.b C.c C.d m).toNat))
    simp only [hT]
    by_cases hs : u % 4 = 1 ∨ u % 4 = 3
    · simp only [show ((u : Int) % 4 = 1 ∨ (u : Int) % 4 = 3) by omega, if_true]; exact pb10_wait hH hu hS hr hn j c m (v : Int) p fd tl cy hm u hu6 hT hs
    · simp only [if_neg (show ¬ ((u : Int) % 4 = 1 ∨ (u : Int) % 4 = 3) by omega)]; exact pb10_next hH hu hS hr hn j c m (v : Int) p fd tl cy hm u hu6 hT hs
  rw [if_neg e10]
  by_cases e16 : l = 16
  · subst e16; rw [if_pos rfl]
    obtain ⟨u, hT, hu6⟩ := u64_nat' (z5_u64 (n := C.n) (k := 1) (i := (inP C.a C.b C.c C.d m)) (hu (inP C.a C.b C.c C.d m).toNat))
    simp only [hT]
    by_cases hq : u = v
    · subst hq; simp only [true_or, if_true]
      exact pb16_same hH hu hS hr hn j c m p fd tl cy hm u hv u hu6 hT rfl
    have hq2 : ¬ (u : Int) = (v : Int) := by omega
    by_cases hs : u % 4 = 3
    · simp only [hq2, show (u : Int) % 4 = 3 by omega, or_true, if_true]
      exact pb16_wait hH hu hS hr hn j c m p fd tl cy hm v hv u hu6 hT hq hs
    · simp only [hq2, show ¬ (u : Int) % 4 = 3 by omega, or_self, if_false]
      exact pb16_next hH hu hS hr hn j c m p fd tl cy hm v hv u hu6 hT hq hs
  rw [if_neg e16]
  by_cases e11 : l = 11
  · subst e11; rw [if_pos rfl]
    exact pb11 hH hu hS hr hn j c m (v : Int) p fd tl cy
  rw [if_neg e11]
  by_cases e12 : l = 12
  · subst e12; rw [if_pos rfl]
    obtain ⟨u, hT, hu6⟩ := u64_nat' (z5_u64 (n := C.n) (k := 1) (i := (inP C.a C.b C.c C.d m)) (hu (inP C.a C.b C.c C.d m).toNat))
    simp only [hT]
    by_cases hs : u % 4 = 0 ∨ u % 4 = 3
    · simp only [if_neg (show ¬ ((u : Int) % 4 = 1 ∨ (u : Int) % 4 = 2) by omega)]; exact pb12_next hH hu hS hr hn j c m (v : Int) p fd tl cy hm u hu6 hT hs
    · simp only [show ((u : Int) % 4 = 1 ∨ (u : Int) % 4 = 2) by omega, if_true]; exact pb12_stay hH hu hS hr hn j c m (v : Int) p fd tl cy hm u hu6 hT hs
  rw [if_neg e12]
  by_cases e13 : l = 13
  · subst e13; rw [if_pos rfl]
    obtain ⟨u, hT, hu6⟩ := u64_nat' (z5_u64 (n := C.n) (k := 1) (i := 2) (hu (2 : Int).toNat))
    simp only [hT]
    by_cases h0 : u = 0
    · subst h0; exact pb13_flip hH hu hS hr hn j c m (v : Int) p fd tl cy 0 hT rfl
    · have h1 : ¬ (u : Int) = 0 := by omega
      simp only [if_neg h1, decide_eq_false h1]; exact pb13_again hH hu hS hr hn j c m (v : Int) p fd tl cy u hT h0
  rw [if_neg e13]
  by_cases e14 : l = 14
  · subst e14; rw [if_pos rfl]
    exact pb14 hH hu hS hr hn j c m (v : Int) p fd tl cy
  rw [if_neg e14]
  by_cases e15 : l = 15
  · subst e15; rw [if_pos rfl]
    exact pb15 hH hu hS hr hn j c m (v : Int) p fd tl cy
  rw [if_neg e15]
  exact pb_other hH hu hS hr hn l j c m (v : Int) p fd tl cy e10 e11 e12 e13 e14 e15 e16
end Go.Proofs.YthdcapkchjamoaaDoor
