/- The document's hand: Load, Store, Cas, Add, at every place; Field, of every word and part; the document's Great. -/
import Derived.Test.YtipkkmmehjdmpaaDoorHandRef
namespace Go.Proofs.YtipkkmmehjdmpaaDoor
open Go Go.RowKit
set_option maxRecDepth 100000
attribute [local go_sem ↓] Go.wp_at_zero Go.wp_at_succ

theorem rLoad_c {X : Nat} {va : Option Addr} {n cap N : Nat} {f : Nat → Int} {a b c d k0 i0 x0 y0 o0 : Int} {w : World} (hH : RHandAt w X va n cap N f a b c d k0 i0 x0 y0 o0) (hL : ∀ R, va = some ⟨R, 0, none⟩ → R < w.heap.size) (i : Int) :
    Calls Tryd.prog 37 #[.pointer (some ⟨X, 0, none⟩), .int .i64 i] w (RPost w X va n cap N (wordsQ n f 1 i 0 0) a b c d (z5 n 1 i 1) (z5 n 1 i i) (z5 n 1 i 0) (z5 n 1 i 0) (z5 n 1 i (f i.toNat)) (.int .u64 (z5 n 1 i (f i.toNat)))) := by
  have HN := Lib.hid (rDo_c hH hL 1 i 0 0 0)
  generalize wordsQ n f 1 i 0 0 = f' at *
  generalize z5 n 1 i 1 = K1 at *
  generalize z5 n 1 i i = I1 at *
  generalize z5 n 1 i 0 = X1 at *
  generalize z5 n 1 i (f i.toNat) = O1 at *
  clear hH hL
  go_enter Tryd.func37, Tryd.ntmps37
  go_wp2_with fail
  refine HN.out.mono ?_
  rintro e W ⟨rfl, hF, hs⟩
  have HF := Lib.hid hF; have HQ := Lib.hid hs; clear hF hs HN
  go_wp2_with fail
  go_ret
  exact ⟨rfl, HF.out, HQ.out⟩
theorem rStore_c {X : Nat} {va : Option Addr} {n cap N : Nat} {f : Nat → Int} {a b c d k0 i0 x0 y0 o0 : Int} {w : World} (hH : RHandAt w X va n cap N f a b c d k0 i0 x0 y0 o0) (hL : ∀ R, va = some ⟨R, 0, none⟩ → R < w.heap.size) (i x : Int) :
    Calls Tryd.prog 36 #[.pointer (some ⟨X, 0, none⟩), .int .i64 i, .int .u64 x] w (RPost w X va n cap N (wordsQ n f 2 i x 0) a b c d (z5 n 2 i 2) (z5 n 2 i i) (z5 n 2 i x) (z5 n 2 i 0) (z5 n 2 i (f i.toNat)) (.tuple #[])) := by
  have HN := Lib.hid (rDo_c hH hL 2 i x 0 0)
  generalize wordsQ n f 2 i x 0 = f' at *
  generalize z5 n 2 i 2 = K1 at *
  generalize z5 n 2 i i = I1 at *
  generalize z5 n 2 i x = X1 at *
  generalize z5 n 2 i 0 = Y1 at *
  generalize z5 n 2 i (f i.toNat) = O1 at *
  clear hH hL
  go_enter Tryd.func36, Tryd.ntmps36
  go_wp2_with fail
  refine HN.out.mono ?_
  rintro e W ⟨rfl, hF, hs⟩
  have HF := Lib.hid hF; have HQ := Lib.hid hs; clear hF hs HN
  go_wp2_with fail
  go_end0
  exact ⟨rfl, HF.out, HQ.out⟩
theorem rCas_c {X : Nat} {va : Option Addr} {n cap N : Nat} {f : Nat → Int} {a b c d k0 i0 x0 y0 o0 : Int} {w : World} (hH : RHandAt w X va n cap N f a b c d k0 i0 x0 y0 o0) (hL : ∀ R, va = some ⟨R, 0, none⟩ → R < w.heap.size) (i x y : Int) :
    Calls Tryd.prog 40 #[.pointer (some ⟨X, 0, none⟩), .int .i64 i, .int .u64 x, .int .u64 y] w (RPost w X va n cap N (wordsQ n f 3 i x y) a b c d (z5 n 3 i 3) (z5 n 3 i i) (z5 n 3 i x) (z5 n 3 i y) (z5 n 3 i (f i.toNat)) (.bool (casB n f i x))) := by
  have HN := Lib.hid (rDo_c hH hL 3 i x y 0)
  by_cases h : okD n 3 i
  · have hz : casB n f i x = (z5 n 3 i (f i.toNat) == x) := by unfold casB z5; rw [decide_eq_true h, if_pos h, Bool.true_and]
    have h3 : z5 n 3 i 3 = 3 := by unfold z5; rw [if_pos h]
    rw [h3] at HN
    rw [hz, h3]; clear hz h3
    generalize wordsQ n f 3 i x y = f' at *
    generalize z5 n 3 i i = I1 at *
    generalize z5 n 3 i x = X1 at *
    generalize z5 n 3 i y = Y1 at *
    generalize z5 n 3 i (f i.toNat) = O1 at *
    clear hH hL h
    go_enter Tryd.func40, Tryd.ntmps40
    go_wp2_with fail
    refine HN.out.mono ?_
    rintro e W ⟨rfl, hF, hs⟩
    have HF := Lib.hid hF; have HQ := Lib.hid hs; clear hF hs HN
    obtain ⟨_, _, h5, _⟩ := HF.out.cells
    go_wp2_with fail
    go_ret
    exact ⟨rfl, HF.out, HQ.out⟩
  · have hz : casB n f i x = false := by unfold casB; rw [decide_eq_false h, Bool.false_and]
    have h3 : z5 n 3 i 3 = 0 := by unfold z5; rw [if_neg h]
    rw [h3] at HN
    rw [hz, h3]; clear hz h3
    generalize wordsQ n f 3 i x y = f' at *
    generalize z5 n 3 i i = I1 at *
    generalize z5 n 3 i x = X1 at *
    generalize z5 n 3 i y = Y1 at *
    generalize z5 n 3 i (f i.toNat) = O1 at *
    clear hH hL h
    go_enter Tryd.func40, Tryd.ntmps40
    go_wp2_with fail
    refine HN.out.mono ?_
    rintro e W ⟨rfl, hF, hs⟩
    have HF := Lib.hid hF; have HQ := Lib.hid hs; clear hF hs HN
    obtain ⟨_, _, h5, _⟩ := HF.out.cells
    go_wp2_with fail
    go_ret
    exact ⟨rfl, HF.out, HQ.out⟩
theorem refIsCell_no (v : Nat) (hv : v < 18446744073709551616) (h : ¬ isC v) (w : World) :
    Calls Tryd.prog 18 #[.int .u64 v] w fun e w' => e = .returned (.int .i64 (-1)) ∧ w = w' := by
  unfold isC at h
  by_cases hp : v % 2 = 0
  · exact refIsCell_even v hv hp w
  · exact refIsCell_other v hv (by omega) (by omega) w
theorem rField_c {X : Nat} {va : Option Addr} {n cap N : Nat} {f : Nat → Int} {a b c d k0 i0 x0 y0 o0 : Int} {w : World} (hH : RHandAt w X va n cap N f a b c d k0 i0 x0 y0 o0) (hr : Right a b c d) (v : Nat) (hv : v < 18446744073709551616) (p : Int) :
    Calls Tryd.prog 41 #[.pointer (some ⟨X, 0, none⟩), .int .u64 v, .int .i64 p] w fun e w' => e = .returned (.int .i64 (fieldP a b c d v p)) ∧ Below w.heap.size w w' := by
  obtain ⟨_, ⟨h1, h2, h3, h4⟩, _⟩ := hH.cells
  clear hH
  by_cases h : isC v
  · have HI := Lib.hid (refIsCell_cell v h.2 h.1 w)
    generalize hm : v / 2 = m at *
    by_cases h0 : p = 0 ∨ p = 1 ∨ p = 2
    · have HE : Hid (fieldP a b c d v p = partP a b c d p (m : Int)) := Lib.hid (by unfold fieldP; rw [if_pos ⟨h, by omega⟩, hm])
      generalize fieldP a b c d v p = R at *
      clear hm h
      rcases h0 with rfl | rfl | rfl
      · have HP := Lib.hid (refAt_car a b c d (m : Int) hr w)
        rw [← HE.out] at HP
        clear HE hr
        go_enter Tryd.func41, Tryd.ntmps41
        go_wp2_with fail
        refine HI.out.mono ?_
        rintro e W ⟨rfl, rfl⟩
        go_wp2_with fail
        refine HP.out.mono ?_
        rintro e W ⟨rfl, hW⟩
        have HB := Lib.hid hW; clear hW
        go_wp2_with fail
        go_ret
        exact ⟨rfl, HB.out⟩
      · have HP := Lib.hid (refAt_cdr a b c d (m : Int) hr w)
        rw [← HE.out] at HP
        clear HE hr
        go_enter Tryd.func41, Tryd.ntmps41
        go_wp2_with fail
        refine HI.out.mono ?_
        rintro e W ⟨rfl, rfl⟩
        go_wp2_with fail
        refine HP.out.mono ?_
        rintro e W ⟨rfl, hW⟩
        have HB := Lib.hid hW; clear hW
        go_wp2_with fail
        go_ret
        exact ⟨rfl, HB.out⟩
      · have HP := Lib.hid (refAt_colour a b c d (m : Int) hr w)
        rw [← HE.out] at HP
        clear HE hr
        go_enter Tryd.func41, Tryd.ntmps41
        go_wp2_with fail
        refine HI.out.mono ?_
        rintro e W ⟨rfl, rfl⟩
        go_wp2_with fail
        refine HP.out.mono ?_
        rintro e W ⟨rfl, hW⟩
        have HB := Lib.hid hW; clear hW
        go_wp2_with fail
        go_ret
        exact ⟨rfl, HB.out⟩
    · have HE : Hid (fieldP a b c d v p = -1) := Lib.hid (by unfold fieldP; rw [if_neg (fun h' => h0 (by omega))])
      generalize fieldP a b c d v p = R at *
      by_cases hp : p < 0
      · clear hm h hr h0
        go_enter Tryd.func41, Tryd.ntmps41
        go_wp2_with fail
        refine HI.out.mono ?_
        rintro e W ⟨rfl, rfl⟩
        go_wp2_with fail
        go_ret
        exact ⟨by rw [HE.out]; rfl, Below.refl _ _⟩
      · have hp2 : 2 < p := by omega
        clear hm h hr h0
        go_enter Tryd.func41, Tryd.ntmps41
        go_wp2_with fail
        refine HI.out.mono ?_
        rintro e W ⟨rfl, rfl⟩
        go_wp2_with fail
        go_ret
        exact ⟨by rw [HE.out]; rfl, Below.refl _ _⟩
  · have HI := Lib.hid (refIsCell_no v hv h w)
    have HE : Hid (fieldP a b c d v p = -1) := Lib.hid (by unfold fieldP; rw [if_neg (fun h' => h h'.1)])
    generalize fieldP a b c d v p = R at *
    clear h hr
    go_enter Tryd.func41, Tryd.ntmps41
    go_wp2_with fail
    refine HI.out.mono ?_
    rintro e W ⟨rfl, rfl⟩
    go_wp2_with fail
    go_ret
    exact ⟨by rw [HE.out]; rfl, Below.refl _ _⟩
/-- More than is looked at. -/
def grt (a b c d : Int) : Prop := 30 < a ∨ 12 < b ∨ 8 < c ∨ 8 < d
theorem great_1 (a b c d : Int) (h1 : 30 < a) (w : World) :
    Calls Tryd.prog 13 #[.agg #[.int .i64 a, .int .i64 b, .int .i64 c, .int .i64 d]] w fun e w' => e = .returned (.bool true) ∧ Below w.heap.size w w' := by
  go_enter Tryd.func13, Tryd.ntmps13
  go_wp2
  go_ret
  exact ⟨rfl, below_new _ _⟩
theorem great_2 (a b c d : Int) (h1 : ¬ 30 < a) (h2 : 12 < b) (w : World) :
    Calls Tryd.prog 13 #[.agg #[.int .i64 a, .int .i64 b, .int .i64 c, .int .i64 d]] w fun e w' => e = .returned (.bool true) ∧ Below w.heap.size w w' := by
  go_enter Tryd.func13, Tryd.ntmps13
  go_wp2
  go_ret
  exact ⟨rfl, below_new _ _⟩
theorem great_3 (a b c d : Int) (h1 : ¬ 30 < a) (h2 : ¬ 12 < b) (h3 : 8 < c) (w : World) :
    Calls Tryd.prog 13 #[.agg #[.int .i64 a, .int .i64 b, .int .i64 c, .int .i64 d]] w fun e w' => e = .returned (.bool true) ∧ Below w.heap.size w w' := by
  go_enter Tryd.func13, Tryd.ntmps13
  go_wp2
  go_ret
  exact ⟨rfl, below_new _ _⟩
theorem great_4 (a b c d : Int) (h1 : ¬ 30 < a) (h2 : ¬ 12 < b) (h3 : ¬ 8 < c) (h4 : 8 < d) (w : World) :
    Calls Tryd.prog 13 #[.agg #[.int .i64 a, .int .i64 b, .int .i64 c, .int .i64 d]] w fun e w' => e = .returned (.bool true) ∧ Below w.heap.size w w' := by
  go_enter Tryd.func13, Tryd.ntmps13
  go_wp2
  go_ret
  exact ⟨rfl, below_new _ _⟩
theorem great_0 (a b c d : Int) (h1 : ¬ 30 < a) (h2 : ¬ 12 < b) (h3 : ¬ 8 < c) (h4 : ¬ 8 < d) (w : World) :
    Calls Tryd.prog 13 #[.agg #[.int .i64 a, .int .i64 b, .int .i64 c, .int .i64 d]] w fun e w' => e = .returned (.bool false) ∧ Below w.heap.size w w' := by
  go_enter Tryd.func13, Tryd.ntmps13
  go_wp2
  go_ret
  exact ⟨rfl, below_new _ _⟩
theorem great_yes (a b c d : Int) (h : grt a b c d) (w : World) :
    Calls Tryd.prog 13 #[.agg #[.int .i64 a, .int .i64 b, .int .i64 c, .int .i64 d]] w fun e w' => e = .returned (.bool true) ∧ Below w.heap.size w w' := by
  unfold grt at h
  by_cases h1 : 30 < a
  · exact great_1 a b c d h1 w
  by_cases h2 : 12 < b
  · exact great_2 a b c d h1 h2 w
  by_cases h3 : 8 < c
  · exact great_3 a b c d h1 h2 h3 w
  exact great_4 a b c d h1 h2 h3 (by omega) w
theorem great_no (a b c d : Int) (h : ¬ grt a b c d) (w : World) :
    Calls Tryd.prog 13 #[.agg #[.int .i64 a, .int .i64 b, .int .i64 c, .int .i64 d]] w fun e w' => e = .returned (.bool false) ∧ Below w.heap.size w w' := by
  unfold grt at h
  exact great_0 a b c d (by omega) (by omega) (by omega) (by omega) w
end Go.Proofs.YtipkkmmehjdmpaaDoor
