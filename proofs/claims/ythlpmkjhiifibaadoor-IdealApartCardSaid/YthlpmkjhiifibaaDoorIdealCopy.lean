/- Package ideal's copied, of words and of cells: a slice of its own that holds the same. -/
import Derived.Test.YthlpmkjhiifibaaDoorIdealCalls
import Derived.Laws.CopyOwn
namespace Go.Proofs.YthlpmkjhiifibaaDoor
open Go Go.RowKit
set_option maxRecDepth 100000
attribute [local go_sem ↓] Go.wp_at_zero Go.wp_at_succ

theorem natMin_self (n : Nat) : Nat.min n n = n := Nat.min_self n
/-- copy, of elements of any size, into a row that is known whole. -/
theorem run_copy_size {P : Program} (w : World) (dT sT ty elem : TypeId) (sz g dLen dCap : Nat) (a : Addr) (sLen sCap : Nat) (cur : Array Value) (t : TypeId) (cs : List Value)
    (hu : P.underlying dT = some (.slice elem)) (hs : (P.info? elem).map (·.size) = some sz)
    (hg : w.heap[g]? = some (.cells cur t (0, 0))) (hn : cs.length = Nat.min sLen dLen * sz)
    (hsrc : ∀ j v, cs[j]? = some v → w.cell? (a.add j) = some v) (hfit : cs.length ≤ cur.size) (h1 : ∀ v ∈ cs, v.oneCell' = true) :
    (Builtin.copy_ #[dT, sT] ty #[.slice (some ⟨g, 0, none⟩) dLen dCap, .slice (some a) sLen sCap]).run P w =
      .ok (goInt (Nat.min sLen dLen)) (w.setRow g (cs ++ cur.toList.drop cs.length).toArray) := by
  have hl := run_loadCells_list (P := P) w a cs hsrc
  have hst := run_storeCells_at P g 0 t cs 0 cur w hg (by simpa using hfit) h1
  cases hq : P.info? elem with
  | none => simp [hq] at hs
  | some i =>
    have hi : i.size = sz := by simpa [hq] using hs
    simp [Builtin.copy_, run_underlying hu, Builtin.lenOf, Builtin.firstCells, sizeOf, typeInfo, hq, hi, ← hn, hl, hst]
theorem infoWord : (Tryd.prog.info? 41).map (fun i => (i.zero, i.size, i.bytes)) = some (some (.int .u64 0), 1, 8) := by kernel_rfl
theorem infoCell : (Tryd.prog.info? 72).map (fun i => (i.zero, i.size, i.bytes)) = some (some (.agg #[.int .u64 0, .int .u64 0]), 2, 16) := by kernel_rfl
theorem make_words (n : Nat) (hn : n ≤ 1000000) (w : World) : (Instr.makeSlice 49 (.int .i64 (n : Int)) (.int .i64 (n : Int))).run Tryd.prog w = .ok (.slice (some ⟨w.heap.size, 0, none⟩) n n) (w.alloc (.cells (madeCells #[.int .u64 0] n) 41)) :=
  run_make_row' 49 41 (.int .u64 0) 8 Tryd.underlying49 infoWord rfl .i64 .i64 n (by omega) (by omega) w
theorem make_cells (n : Nat) (hn : n ≤ 1000000) (w : World) : (Instr.makeSlice 50 (.int .i64 (n : Int)) (.int .i64 (n : Int))).run Tryd.prog w = .ok (.slice (some ⟨w.heap.size, 0, none⟩) n n) (w.alloc (.cells (madeCells #[.int .u64 0, .int .u64 0] (n * 2)) 72)) := by
  obtain ⟨i, hi, hzz⟩ := Option.map_eq_some_iff.1 infoCell
  simp only [Prod.mk.injEq] at hzz
  obtain ⟨hz, hs, hb⟩ := hzz
  have hr := run_make (P := Tryd.prog) w 50 72 i (.agg #[.int .u64 0, .int .u64 0]) Tryd.underlying50 hi hz .i64 .i64 n n (by omega) (Int.le_refl _) (by rw [hb]; omega) (by omega)
  simp only [Int.toNat_natCast, hs] at hr
  exact hr
theorem cells_of {w : World} {B : Nat} {t : TypeId} {n : Nat} {f : Nat → Nat} (h : RowN w B t n f) : ∀ j v, (wordsL n f)[j]? = some v → w.cell? ((⟨B, 0, none⟩ : Addr).add j) = some v := fun j v hv => by
  have hadd : (⟨B, 0, none⟩ : Addr).add j = ⟨B, j, none⟩ := by unfold Addr.add; split <;> simp_all
  by_cases hj : j < n
  · rw [wordsL_get _ _ _ hj] at hv
    rw [hadd, h.cell hj, hv]
  · rw [List.getElem?_eq_none (by rw [wordsL_len]; omega)] at hv; cases hv
theorem oneCell_wordsL (n : Nat) (f : Nat → Nat) : ∀ v ∈ wordsL n f, v.oneCell' = true := by
  intro v hv
  obtain ⟨j, _, rfl⟩ := List.mem_map.1 hv
  rfl
theorem copiedW_c {w : World} {B n cap : Nat} {t : TypeId} {f : Nat → Nat} (hn : n ≤ 1000000) (h : RowN w B t n f) :
    Calls Tryd.prog 40 #[.slice (some ⟨B, 0, none⟩) n cap] w fun e w' => e = .returned (.slice (some ⟨w.heap.size, 0, none⟩) n n) ∧ RowN w' w.heap.size 41 n f ∧ Below w.heap.size w w' := by
  have hmk := make_words n hn
  have hb := below_new w (.cells (madeCells #[.int .u64 0] n) 41)
  have hcp := run_copy_size (P := Tryd.prog) (w.alloc (.cells (madeCells #[.int .u64 0] n) 41)) 49 49 3 41 1 w.heap.size n n ⟨B, 0, none⟩ n cap (madeCells #[.int .u64 0] n) 41 (wordsL n f) Tryd.underlying49 (by kernel_rfl) (newBlock _ _)
    (by rw [wordsL_len, natMin_self, Nat.mul_one]) (cells_of (h.other (hb.block B h.lt))) (by rw [wordsL_len, size_madeCells]; exact Nat.le_refl _) (oneCell_wordsL n f)
  rw [natMin_self] at hcp
  have HP : Hid (RowN ((w.alloc (.cells (madeCells #[.int .u64 0] n) 41)).setRow w.heap.size (wordsL n f ++ (madeCells #[.int .u64 0] n).toList.drop (wordsL n f).length).toArray) w.heap.size 41 n f ∧ Below w.heap.size w ((w.alloc (.cells (madeCells #[.int .u64 0] n) 41)).setRow w.heap.size (wordsL n f ++ (madeCells #[.int .u64 0] n).toList.drop (wordsL n f).length).toArray)) := Lib.hid
    ⟨⟨_, setRow_heap _ _ _ _ _ _ (newBlock _ _), by simp [wordsL_len], fun j hj => by
        rw [List.getElem?_toArray, List.getElem?_append_left (by rw [wordsL_len]; exact hj), wordsL_get _ _ _ hj]⟩, below_setRow hb (Nat.le_refl _) _⟩
  generalize (wordsL n f ++ (madeCells #[.int .u64 0] n).toList.drop (wordsL n f).length).toArray = row at *
  clear h hb hn
  go_enter Tryd.func40, Tryd.ntmps40
  go_wp2
  go_ret
  exact ⟨rfl, HP.out.1, HP.out.2⟩
theorem copiedC_c {w : World} {v : Value} {n : Nat} {f : Nat → Nat} (hn : n ≤ 1000000) (h : MadeAt w v n f) :
    Calls Tryd.prog 41 #[v] w fun e w' => e = .returned (.slice (some ⟨w.heap.size, 0, none⟩) n n) ∧ MadeAt w' (.slice (some ⟨w.heap.size, 0, none⟩) n n) n f ∧ Below w.heap.size w w' := by
  have hmk := make_cells n hn
  have hb := below_new w (.cells (madeCells #[.int .u64 0, .int .u64 0] (n * 2)) 72)
  by_cases h0 : n = 0
  · subst h0
    have hcp : ∀ (sp : Option Addr) (cap : Nat), (Builtin.copy_ #[50, 50] 3 #[.slice (some ⟨w.heap.size, 0, none⟩) 0 0, .slice sp 0 cap]).run Tryd.prog (w.alloc (.cells (madeCells #[.int .u64 0, .int .u64 0] (0 * 2)) 72)) = .ok (goInt 0) (w.alloc (.cells (madeCells #[.int .u64 0, .int .u64 0] (0 * 2)) 72)) := by
      intro sp cap
      cases hq : Tryd.prog.info? 72 with
      | none => have := infoCell; rw [hq] at this; cases this
      | some i => cases sp <;> simp [Builtin.copy_, run_underlying Tryd.underlying50, Builtin.lenOf, Builtin.firstCells, sizeOf, typeInfo, hq, storeCells, loadCells, loadCellsFrom]
    obtain ⟨sp, cap, rfl⟩ := h.form
    have hcp' := hcp sp cap
    have HP : Hid (MadeAt (w.alloc (.cells (madeCells #[.int .u64 0, .int .u64 0] (0 * 2)) 72)) (.slice (some ⟨w.heap.size, 0, none⟩) 0 0) 0 f) := Lib.hid ⟨by simp [wordsL], .inr ⟨w.heap.size, 0, _, rfl, Nat.zero_le _, newBlock _ _, Nat.le_refl _, by simp [maxLen], by simp [size_madeCells], by simp [wordsL]⟩⟩
    have HB := Lib.hid hb
    have hmk' : ∀ w : World, (Instr.makeSlice 50 (.int .i64 0) (.int .i64 0)).run Tryd.prog w = .ok (.slice (some ⟨w.heap.size, 0, none⟩) 0 0) (w.alloc (.cells (madeCells #[.int .u64 0, .int .u64 0] (0 * 2)) 72)) := hmk
    clear h hcp hn hb hmk
    generalize madeCells #[.int .u64 0, .int .u64 0] (0 * 2) = mc at *
    go_enter Tryd.func41, Tryd.ntmps41
    go_wp2
    go_ret
    exact ⟨rfl, HP.out, HB.out⟩
  · obtain ⟨M, cap, rfl, hr⟩ := h.row (by omega)
    have hcp := run_copy_size (P := Tryd.prog) (w.alloc (.cells (madeCells #[.int .u64 0, .int .u64 0] (n * 2)) 72)) 50 50 3 72 2 w.heap.size n n ⟨M, 0, none⟩ n cap (madeCells #[.int .u64 0, .int .u64 0] (n * 2)) 72 (wordsL (n * 2) f) Tryd.underlying50 (by kernel_rfl) (newBlock _ _)
      (by rw [wordsL_len, natMin_self]) (cells_of (hr.other (hb.block M hr.lt))) (by rw [wordsL_len, size_madeCells]; exact Nat.le_refl _) (oneCell_wordsL _ f)
    rw [natMin_self] at hcp
    have HP : Hid (MadeAt ((w.alloc (.cells (madeCells #[.int .u64 0, .int .u64 0] (n * 2)) 72)).setRow w.heap.size (wordsL (n * 2) f ++ (madeCells #[.int .u64 0, .int .u64 0] (n * 2)).toList.drop (wordsL (n * 2) f).length).toArray) (.slice (some ⟨w.heap.size, 0, none⟩) n n) n f ∧ Below w.heap.size w ((w.alloc (.cells (madeCells #[.int .u64 0, .int .u64 0] (n * 2)) 72)).setRow w.heap.size (wordsL (n * 2) f ++ (madeCells #[.int .u64 0, .int .u64 0] (n * 2)).toList.drop (wordsL (n * 2) f).length).toArray)) := Lib.hid
      ⟨⟨by rw [wordsL_len], .inr ⟨w.heap.size, n, _, rfl, Nat.zero_le _, setRow_heap _ _ _ _ _ _ (newBlock _ _), Nat.le_refl _, by unfold maxLen; omega, by simp [wordsL_len, size_madeCells], by
        have e : (wordsL (n * 2) f).length = n * 2 := wordsL_len _ _
        exact List.take_left' e⟩⟩, below_setRow hb (Nat.le_refl _) _⟩
    generalize (wordsL (n * 2) f ++ (madeCells #[.int .u64 0, .int .u64 0] (n * 2)).toList.drop (wordsL (n * 2) f).length).toArray = row at *
    clear h hb hn hr h0
    generalize madeCells #[.int .u64 0, .int .u64 0] (n * 2) = mc at *
    go_enter Tryd.func41, Tryd.ntmps41
    go_wp2
    go_ret
    exact ⟨rfl, HP.out.1, HP.out.2⟩
end Go.Proofs.YthlpmkjhiifibaaDoor
