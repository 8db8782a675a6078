/- WordCells answers true for every list of words: the law of P1.3. -/
import Derived.Test.YtlnnnjlmfndlbaaDoorClone
import Derived.Test.YtlnnnjlmfndlbaaDoorFmt
namespace Go.Proofs.YtlnnnjlmfndlbaaDoor
open Go Go.RowKit Go.Shelf
attribute [local go_sem] Oper.semAt_some
set_option maxRecDepth 100000

theorem info3 : (Tryd.prog.info? 3).map (fun i => (i.zero, i.size, i.bytes)) = some (some (.int .i64 0), 1, 8) := by kernel_rfl
def intsV (zs : List Nat) : List Value := zs.map fun x : Nat => Value.int .i64 (x : Int)
/-- The law's own memory while it gathers: the result, the list of what is wanted. -/
def Gathers (w wr : World) (want : List Nat) : Prop :=
  ∃ a n c, wr.cell? ⟨w.heap.size + 1, 0, none⟩ = some (.slice a n c) ∧ wr.frozen? ⟨w.heap.size + 1, 0, none⟩ = false ∧
    wr.ownsRow (w.heap.size + 2) 3 1 (.slice a n c) want.length (intsV want) ∧ wr.cell? ⟨w.heap.size, 0, none⟩ = some (.bool false) ∧ wr.frozen? ⟨w.heap.size, 0, none⟩ = false ∧ Below w.heap.size w wr ∧ w.heap.size + 2 ≤ wr.heap.size

theorem intsV_snoc (l : List Nat) (m : Nat) : intsV (l ++ [m]) = intsV l ++ [.int .i64 (m : Int)] := by simp [intsV]
theorem oneNew (w : World) (v : Value) (t : TypeId) (j : Nat) (u : Value) (h : ([v] : List Value)[j]? = some u) : (w.alloc (.cells #[v] t)).cell? ((⟨w.heap.size, 0, none⟩ : Addr).add j) = some u := by
  cases j with
  | zero => simp at h; subst h; rw [Lib.add_plain, World.cell?_alloc_new]; rfl
  | succ j => simp at h
theorem rowForm {w : World} {base : Nat} {v : Value} {n : Nat} {xs : List Value} (h : w.ownsRow base 3 1 v n xs) : ∃ a l c, v = .slice a l c := by
  obtain ⟨_, ⟨rfl, _⟩ | ⟨g, cap, _, rfl, _⟩⟩ := h
  · exact ⟨_, _, _, rfl⟩
  · exact ⟨_, _, _, rfl⟩
/-- The step of the gathering: one more is wanted. -/
theorem Gathers.put {w wr w1 : World} {want : List Nat} {m : Nat} {a : Option Addr} {n c : Nat} {v' : Value} (hz : w.heap.size + 2 ≤ wr.heap.size) (hB : Below w.heap.size w wr)
    (hv : wr.cell? ⟨w.heap.size + 1, 0, none⟩ = some (.slice a n c)) (hf : wr.frozen? ⟨w.heap.size + 1, 0, none⟩ = false) (hr : wr.cell? ⟨w.heap.size, 0, none⟩ = some (.bool false)) (hrf : wr.frozen? ⟨w.heap.size, 0, none⟩ = false)
    (hrow : wr.ownsRow (w.heap.size + 2) 3 1 (.slice a n c) want.length (intsV want))
    (hown : w1.ownsRow (w.heap.size + 2) 3 1 v' (want.length + 1) (intsV want ++ [.int .i64 (m : Int)])) (hg : (wr.alloc (.cells #[.int .i64 (m : Int)] 3)).grownBy w1 (Value.ownBlock (.slice a n c))) :
    w1.cell? ⟨w.heap.size + 1, 0, none⟩ = some (.slice a n c) ∧ w1.frozen? ⟨w.heap.size + 1, 0, none⟩ = false ∧ Gathers w (w1.setCell ⟨w.heap.size + 1, 0, none⟩ v') (want ++ [m]) := by
  have hlt := hrow.lt
  have hb2 : ∀ k, k < w.heap.size + 2 → w1.heap[k]? = wr.heap[k]? := fun k hk => by
    rw [hg.block k (by simp; omega) (fun e => by have := (hlt k e.symm).1; omega)]
    exact Below.heap_alloc wr _ k (by omega)
  have c1 : w1.cell? ⟨w.heap.size + 1, 0, none⟩ = some (.slice a n c) := (World.cell?_of_block (hb2 _ (by simp))).trans hv
  have f1 : w1.frozen? ⟨w.heap.size + 1, 0, none⟩ = false := (World.frozen?_of_block (hb2 _ (by simp))).trans hf
  have c0 : w1.cell? ⟨w.heap.size, 0, none⟩ = some (.bool false) := (World.cell?_of_block (hb2 _ (by simp))).trans hr
  have f0 : w1.frozen? ⟨w.heap.size, 0, none⟩ = false := (World.frozen?_of_block (hb2 _ (by simp))).trans hrf
  have hB1 : Below w.heap.size w w1 := (hB.alloc hB.size _).grown hg (by simp; omega) (fun k e => by have := (hlt k e).1; omega)
  have hz1 : w.heap.size + 2 ≤ w1.heap.size := by have := hg.size; simp at this; omega
  obtain ⟨a', l', c', rfl⟩ := rowForm hown
  refine ⟨c1, f1, a', l', c', World.cell?_setCell_same' _ _ _ (by rw [c1]; rfl), by rw [World.frozen?_setCell]; exact f1, ?_, ?_, by rw [World.frozen?_setCell]; exact f0, hB1.setCell (p := ⟨w.heap.size + 1, 0, none⟩) (by simp) _, by simpa [World.setCell] using hz1⟩
  · rw [List.length_append, intsV_snoc]
    refine hown.kept (grownBy_setCell' w1 _ _) ?_
    cases hob : Value.ownBlock (.slice a' l' c') with
    | none => exact .inl rfl
    | some g => exact .inr (fun e => by cases e; have := (hown.lt _ hob).1; omega)
  · rw [World.cell?_setCell_other _ _ _ _ (by simp)]; exact c0

/-- The law's own memory while it goes through what is told: N: where it counts. -/
def Checks (w : World) (N : Nat) (a : Option Addr) (c : Nat) (want : List Nat) (pre : List Nat) (W : World) : Prop :=
  pre <+: want ∧ W.cell? ⟨N, 0, none⟩ = some (.int .i64 (pre.length : Int)) ∧ W.frozen? ⟨N, 0, none⟩ = false ∧ W.cell? ⟨w.heap.size + 1, 0, none⟩ = some (.slice a want.length c) ∧
    W.ownsRow (w.heap.size + 2) 3 1 (.slice a want.length c) want.length (intsV want) ∧ W.cell? ⟨w.heap.size, 0, none⟩ = some (.bool false) ∧ W.frozen? ⟨w.heap.size, 0, none⟩ = false ∧ Below w.heap.size w W
theorem row_own {W W' : World} {row : Option Nat} {base : Nat} {v : Value} {n : Nat} {xs : List Value} (h : W.ownsRow base 3 1 v n xs) (hg : W.grownBy W' row) (hr : ∀ r, row = some r → ∃ o : Obj, W.heap[r]? = some o ∧ o.isCells = false) : W'.ownsRow base 3 1 v n xs := by
  refine h.kept hg ?_
  rcases h.2 with ⟨rfl, _⟩ | ⟨g, cap, cur, rfl, _, hgb, _⟩
  · exact .inl rfl
  · refine .inr fun e' => ?_
    obtain ⟨o, ho, hc⟩ := hr g (by simpa [Value.ownBlock] using e'.symm)
    rw [hgb] at ho; cases ho; cases hc
theorem Checks.own (w : World) (N : Nat) (a : Option Addr) (c : Nat) (want : List Nat) (B : Nat) (hB : w.heap.size ≤ B) : OwnFrom B (Checks w N a c want) := fun s A A' row hs hg hr => by
  obtain ⟨h1, h2, h3, h4, h5, h6, h7, h8⟩ := hs
  have hr' : ∀ r, row = some r → ∃ o : Obj, A.heap[r]? = some o ∧ o.isCells = false := fun r e => (hr r e).2
  exact ⟨h1, cell_kept h2 hg hr', (frozen_kept h2 hg hr').trans h3, cell_kept h4 hg hr', row_own h5 hg hr', cell_kept h6 hg hr', (frozen_kept h6 hg hr').trans h7, h8.grown hg h8.size (fun k e => by have := (hr k e).1; omega)⟩
theorem Checks.step {w W : World} {N : Nat} {a : Option Addr} {c : Nat} {want pre : List Nat} {x : Nat} (h : Checks w N a c want pre W) (hN : w.heap.size + 2 ≤ N) (hne : Value.ownBlock (.slice a want.length c) ≠ some N) (hx : pre ++ [x] <+: want) :
    Checks w N a c want (pre ++ [x]) (W.setCell ⟨N, 0, none⟩ (.int .i64 ((pre.length : Int) + 1))) := by
  obtain ⟨h1, h2, h3, h4, h5, h6, h7, h8⟩ := h
  refine ⟨hx, ?_, by rw [World.frozen?_setCell]; exact h3, ?_, h5.kept (grownBy_setCell' W N _) (.inr hne), ?_, by rw [World.frozen?_setCell]; exact h7, h8.setCell (p := ⟨N, 0, none⟩) (by simp only; omega) _⟩
  · rw [World.cell?_setCell_same' _ _ _ (by rw [h2]; rfl)]; simp
  · rw [World.cell?_setCell_other _ _ _ _ (by simp only [ne_eq, Addr.mk.injEq]; omega)]; exact h4
  · rw [World.cell?_setCell_other _ _ _ _ (by simp only [ne_eq, Addr.mk.injEq]; omega)]; exact h6
theorem prefix_next {want pre : List Nat} (h : pre <+: want) (hlt : pre.length < want.length) : pre ++ [want[pre.length]] <+: want := by
  obtain ⟨t, rfl⟩ := h
  cases t with
  | nil => simp at hlt
  | cons y t => exact ⟨t, by simp⟩
theorem prefix_not {want pre : List Nat} {x : Nat} (h : pre ++ [x] <+: want) : ∃ hlt : pre.length < want.length, want[pre.length] = x := by
  obtain ⟨t, rfl⟩ := h
  exact ⟨by simp only [List.length_append, List.length_cons]; omega, by simp⟩

set_option maxHeartbeats 4000000 in
theorem cellsLaw_some (b off cap : Nat) (zs : List UInt64) (hl : zs.length ≤ 60) (w : World) (hb : b < w.heap.size) (hc : ∀ j, j < zs.length → w.cell? ⟨b, off + j, none⟩ = some (.int .u64 ((zs[j]?.getD 0).toNat : Int))) :
    Calls Tryd.prog 6 #[.slice (some ⟨b, off, none⟩) zs.length cap] w fun e w' => e = .returned (.bool true) ∧ Below w.heap.size w w' := by
  obtain ⟨i0, hi, hz0, hz1, hz2⟩ := info_parts info3
  have htake : Hid (∀ k, k < zs.length → zs.take (k + 1) = zs.take k ++ [zs[k]?.getD 0]) := Lib.hid fun k hk => by
    rw [List.take_succ_eq_append_getElem hk, List.getElem?_eq_getElem hk]; rfl
  have hfull : Hid (zs.take zs.length = zs) := Lib.hid (List.take_length)
  have HC := Lib.hid hc
  have HCL : Hid (∀ W, Below w.heap.size w W → Calls Tryd.prog 31 #[.slice (some ⟨b, off, none⟩) zs.length cap] W (ClonePost W zs)) := Lib.hid fun W hW =>
    clone_some b off cap zs hl W (Nat.lt_of_lt_of_le hb hW.size) (fun j hj => (hW.cell (p := ⟨b, off + j, none⟩) hb).trans (hc j hj))
  clear hc
  refine (callsIn_wide (n := 20)).1 ?_
  refine callsIn_of_wp_marks Tryd.func6 rfl trivial ?_ rfl
  simp only [Tryd.ntmps6, List.size_toArray, List.length_cons, List.length_nil, Nat.reduceAdd, Nat.reduceSub, Array.replicate_succ, Array.replicate_zero, List.push_toArray, List.append_toArray, List.nil_append, List.cons_append]
  gi_wp2_with (first
    | (gi_at_call 8; refine (callsIn_wide.2 (awake_c _)).mono ?_; rintro e w' ⟨rfl, rfl⟩)
    | (refine ⟨trivial, ?_⟩; gi_at_call 8; refine (callsIn_wide.2 (awake_c _)).mono ?_; rintro e w' ⟨rfl, rfl⟩))
  gi_loopw [4] (fun i wr => ∃ k : Nat, k ≤ zs.length ∧ i = .int .i64 k ∧ Hid (Gathers w wr (cellsOf (zs.take k)))) (fun i _ => zs.length - (intOf i).toNat)
  case atStart =>
    refine ⟨0, Nat.zero_le _, rfl, Lib.hid ⟨none, 0, 0, ?_, ?_, ?_, ?_, ?_, ?_, by simp⟩⟩
    · have := World.cell?_alloc_new (w.alloc (.cells #[.bool false] 4)) #[.slice none 0 0] 40 0
      rw [World.size_alloc] at this; exact this
    · have := World.frozen?_alloc_new (w.alloc (.cells #[.bool false] 4)) #[.slice none 0 0] 40 0
      rw [World.size_alloc] at this; exact this
    · exact World.ownsRow_nil _ _ _ _
    · exact (((Below.refl (w.heap.size + 1) (w.alloc (.cells #[.bool false] 4))).alloc (by simp) _).cell (p := ⟨w.heap.size, 0, none⟩) (by simp)).trans (World.cell?_alloc_new w _ _ 0)
    · exact (((Below.refl (w.heap.size + 1) (w.alloc (.cells #[.bool false] 4))).alloc (by simp) _).frozen (p := ⟨w.heap.size, 0, none⟩) (by simp)).trans (World.frozen?_alloc_new w _ _ 0)
    · exact ((Below.refl _ w).alloc (Nat.le_refl _) _).alloc (by simp) _
  case round =>
    obtain ⟨k, hk, rfl, HG⟩ := hrel
    by_cases hlt : k < zs.length
    · obtain ⟨a, n, c, hv, hf, hrow, hr, hrf, hB, hz⟩ := HG.out
      have hcx : wr.cell? ⟨b, off + k, none⟩ = some (.int .u64 ((zs[k]?.getD 0).toNat : Int)) := (hB.cell (p := ⟨b, off + k, none⟩) hb).trans (HC.out k hlt)
      have HT := Lib.hid (htake.out k hlt)
      generalize zs[k]?.getD 0 = x at hcx HT
      have hx : x.toNat < 18446744073709551616 := x.toNat_lt
      by_cases hco : x.toNat % 2 = 1 ∧ x.toNat < 8192
      · have HI := Lib.hid (refIsCell_cell x.toNat hco.2 hco.1)
        have HE : Hid (cellsOf (zs.take (k + 1)) = cellsOf (zs.take k) ++ [x.toNat / 2]) := Lib.hid (by rw [HT.out, cellsOf_snoc]; unfold cellOf; rw [if_pos hco]; rfl)
        have hlw : (cellsOf (zs.take k)).length ≤ 60 := by have := cellsOf_length (zs.take k); rw [List.length_take] at this; omega
        clear HT hco HG
        generalize x.toNat / 2 = m at *
        generalize cellsOf (zs.take k) = want at *
        gi_wp2_with (first
          | (refine ⟨trivial, ?_⟩; gi_at_call 13; refine (callsIn_wide.2 (HI.out _)).mono ?_; rintro e w' ⟨rfl, rfl⟩)
          | (gi_at_builtin; refine wpListIn_append_own _ rfl _ _ 40 rfl (w.heap.size + 2) 3 i0 (.int .i64 0) 1 8 Tryd.underlying40 hi hz0 hz1 hz2 rfl (by decide) _ _ _ rfl (hrow.alloc _) ⟨wr.heap.size, 0, none⟩ 1 1 [.int .i64 (m : Int)] rfl rfl (oneNew _ _ _) (by simp [Value.oneCell']) (by unfold maxLen; omega) (by omega) (by simp; omega) ?_; intro v' w1 hown' hgrow _; obtain ⟨g', cap', rfl⟩ := ownsRow_succ hown'; obtain ⟨hc1, hf1, HG2⟩ := Gathers.put hz hB hv hf hr hrf hrow hown' hgrow; have HG3 := Lib.hid HG2; clear HG2 hown' hgrow hrow hv hf hr hrf))
        go_roundw
        case rel => exact ⟨k + 1, by omega, by go_num, by rw [HE.out]; exact HG3⟩
        case measure => simp [intOf]; omega
      · have HI : Hid (∀ w, Calls Tryd.prog 13 #[.int .u64 (x.toNat : Int)] w fun e w' => e = .returned (.int .i64 (-1)) ∧ w = w') := by
          by_cases hp : x.toNat % 2 = 0
          · exact Lib.hid (refIsCell_even x.toNat hx hp)
          · exact Lib.hid (refIsCell_other x.toNat hx (by omega) (by omega))
        have HE : Hid (cellsOf (zs.take (k + 1)) = cellsOf (zs.take k)) := Lib.hid (by rw [HT.out, cellsOf_snoc]; unfold cellOf; rw [if_neg hco]; simp)
        clear HT hco hrow hv hf hr hrf
        gi_wp2_with (first
          | (refine ⟨trivial, ?_⟩; gi_at_call 13; refine (callsIn_wide.2 (HI.out _)).mono ?_; rintro e w' ⟨rfl, rfl⟩))
        go_roundw
        case rel => exact ⟨k + 1, by omega, by go_num, by rw [HE.out]; exact HG⟩
        case measure => simp [intOf]; omega
    · have hkk : k = zs.length := by omega
      have HG2 : Hid (Gathers w wr (cellsOf zs)) := by rw [hkk, hfull.out] at HG; exact HG
      clear HG hkk htake hfull HC
      obtain ⟨a, n, c, hv, hf, hrow, hr, hrf, hB, hz⟩ := HG2.out
      gi_wp2_with (first
        | (refine ⟨trivial, ?_⟩; gi_at_call 22; refine (callsIn_wide.2 (cellsFn _ zs _ (Lib.hid (HCL.out _ (hB.alloc hB.size _))))).mono ?_))
      rintro e W1 ⟨Bw, Bs, sv, rfl, hBw, hBs, hcw, hcs, hW, hB1⟩
      have hseq := cells_seq (20 - 1) (by decide) Bw Bs _ _ sv zs hl W1 hBw hBs (Nat.le_refl _) hcw hcs hW
      have hzN : wr.heap.size + 1 ≤ W1.heap.size := by have := hB1.size; simpa using this
      have hbA : Below wr.heap.size wr (wr.alloc (.cells #[.int .i64 0] 3)) := (Below.refl _ wr).alloc (Nat.le_refl _) _
      have hbW : Below wr.heap.size wr W1 := hbA.trans (hB1.mono (by simp))
      obtain rfl : n = (cellsOf zs).length := by
        rcases hrow.2 with ⟨h1, h2⟩ | ⟨g, cap', cur, h1, _⟩
        · cases h1; exact h2.symm
        · cases h1; rfl
      have hne : Value.ownBlock (.slice a (cellsOf zs).length c) ≠ some wr.heap.size := fun e => by have := (hrow.lt _ e).2; omega
      have hI0 : Checks w wr.heap.size a c (cellsOf zs) [] W1 := by
        refine ⟨List.nil_prefix, ?_, ?_, (hbW.cell (p := ⟨w.heap.size + 1, 0, none⟩) (by simp only; omega)).trans hv, ?_, (hbW.cell (p := ⟨w.heap.size, 0, none⟩) (by simp only; omega)).trans hr, (hbW.frozen (p := ⟨w.heap.size, 0, none⟩) (by simp only; omega)).trans hrf, hB.trans (hbW.mono hB.size)⟩
        · exact (hB1.cell (p := ⟨wr.heap.size, 0, none⟩) (by simp)).trans (World.cell?_alloc_new wr _ _ 0)
        · exact (hB1.frozen (p := ⟨wr.heap.size, 0, none⟩) (by simp)).trans (World.frozen?_alloc_new wr _ _ 0)
        · exact hrow.kept (row := none) ⟨hbW.os, hbW.tape, hbW.output, hbW.size, fun k hk _ => hbW.block k hk⟩ (by
            cases hob : Value.ownBlock (.slice a (cellsOf zs).length c) with
            | none => exact .inl rfl
            | some g => exact .inr (by simp))
      have hlw : (cellsOf zs).length ≤ 60 := by have := cellsOf_length zs; omega
      have HI0 := Lib.hid hI0
      have HN := Lib.hid hne
      have HS := Lib.hid hseq
      clear hseq hI0 hne hW hB1 hbA hbW hcw hcs hBw hBs hrow hv hf hr hrf hB HG2 HCL
      generalize cellsOf zs = want at *
      gi_wp2
      refine wpIn_rangeX rfl (by decide) (gf := 32) (lb := #[.pointer (some ⟨Bw, 0, none⟩)]) rfl trivial (enters_of Tryd.func32 (by kernel_rfl) rfl)
        HS.out KeepsIn.trans (keepsIn_b (Nat.le_refl _)) (Below.refl _ _) (fun _ => rfl)
        (Checks w wr.heap.size a c want) (fun cc pre _ => cc = .ret ∧ ¬ pre <+: want)
        (Checks.own _ _ _ _ _ _ (by omega)) (fun cc => ownFrom_pure _ _) HI0.out
        (fun x => { tmps := #[.slice (some ⟨b, off, none⟩) zs.length cap, undef, .pointer (some ⟨w.heap.size, 0, none⟩), .pointer (some ⟨w.heap.size + 1, 0, none⟩), .int .i64 k, u5, .pointer (some ⟨wr.heap.size, 0, none⟩), .int .i64 (x : Int), .bool true, .bool false,
          .slice (some ⟨b, off, none⟩) zs.length cap, .int .i64 zs.length, .bool (decide (60 < (zs.length : Int))), .int .i64 k, .slice (some ⟨b, off, none⟩) zs.length cap, .int .i64 zs.length, .bool false,
          u17, u18, u19, u20, u21, u22, u23, u24, u25, u26, u27, u28, u29, .slice (some ⟨b, off, none⟩) zs.length cap, .func (.func 32) #[] #[.pointer (some ⟨Bw, 0, none⟩)], .int .i64 (x : Int), undef, undef, undef,
          undef, undef, undef, undef, undef, undef, undef, undef, undef, undef, undef, undef, undef, undef, undef], defers := [] }) ?assign ?body ?done ?stop
      case assign =>
        intro l x W K hK
        gi_wp2
        exact hK
      case body =>
        rintro l pre x W HC hlen
        have HCC := Lib.hid HC
        obtain ⟨h1, h2, h3, h4, h5, h6, h7, h8⟩ := HC
        have hple : pre.length ≤ want.length := h1.length_le
        by_cases hlt2 : pre.length < want.length
        · obtain ⟨y, hy⟩ : ∃ y, y = want[pre.length] := ⟨_, rfl⟩
          have hnext := prefix_next h1 hlt2
          rw [← hy] at hnext
          have hcell : ∃ g, a = some ⟨g, 0, none⟩ ∧ W.cell? ⟨g, pre.length, none⟩ = some (.int .i64 (y : Int)) := by
            rcases h5.2 with ⟨_, h0⟩ | ⟨g, cap', cur, hv', _⟩
            · omega
            · cases hv'
              refine ⟨g, rfl, ?_⟩
              have := h5.cells rfl pre.length (.int .i64 (y : Int)) (by unfold intsV; rw [List.getElem?_map, List.getElem?_eq_getElem hlt2, ← hy]; rfl)
              rw [Lib.add_plain, Nat.zero_add] at this
              exact this
          obtain ⟨g, rfl, hcy⟩ := hcell
          have HNX := Lib.hid hnext
          have HYY := Lib.hid hy
          clear hnext hy h1 h5
          by_cases hxy : x = y
          · subst hxy
            have HST := Lib.hid (HCC.out.step hz HN.out HNX.out)
            clear HCC HNX HYY
            gi_wp2
            exact ⟨KeepsTop.of_grownBy (grownBy_setCell' W _ _) (fun j e => by cases e; omega), ⟨by simp [World.setCell], fun q hq1 _ => Below.heap_setCell _ _ _ _ (by simp at hq1 ⊢; omega)⟩, HST.out⟩
          · have hb1 : ((x : Int) != (y : Int)) = true := by simp; omega
            have hnot : ¬ pre ++ [x] <+: want := fun e => by obtain ⟨hlt', e'⟩ := prefix_not e; rw [HYY.out] at hxy; exact hxy e'.symm
            have HNT := Lib.hid hnot
            clear HCC HNX HYY hnot hxy
            gi_wp2
            exact ⟨KeepsTop.of_grownBy (grownBy_setCell' W _ _) (fun j e => by cases e; omega), rfl, HNT.out⟩
        · have hnot : ¬ pre ++ [x] <+: want := fun e => by obtain ⟨hlt', _⟩ := prefix_not e; exact hlt2 hlt'
          have HNT := Lib.hid hnot
          have hge : want.length ≤ pre.length := by omega
          clear hnot HCC h1 h5
          gi_wp2
          exact ⟨KeepsTop.of_grownBy (grownBy_setCell' W _ _) (fun j e => by cases e; omega), rfl, HNT.out⟩
      case done =>
        rintro D ys W hD rfl ⟨_, h2, h3, h4, h5, h6, h7, h8⟩ hK
        clear h5
        gi_wp2
        have hK' := (KeepsOthers.setCell W ⟨w.heap.size, 0, none⟩ (.bool true)).same D _ hK rfl
        refine ⟨by simp, .inl ⟨_, _, rfl, run_takeDeferred hK', ?_⟩⟩
        have hc5 := cell_kept (World.cell?_setCell_same' W ⟨w.heap.size, 0, none⟩ (.bool true) (by rw [h6]; rfl)) (grownBy_putObj' _ D (.deferred none)) (fun r e => by cases e; exact ⟨_, hK', rfl⟩)
        refine ⟨.bool true, ?_, rfl, (h8.setCell (p := ⟨w.heap.size, 0, none⟩) (Nat.le_refl _) _).trans (belowK_b (w := w) (Nat.le_refl _) _ D _ _ (by omega) hK' rfl rfl)⟩
        simp [results, Tryd.f6, go_sem, hc5]
      case stop =>
        rintro D cc pre W hD hpre ⟨rfl, hnot⟩ hK
        exact absurd hpre hnot

set_option maxHeartbeats 4000000 in
theorem cellsLaw_nil (w : World) : Calls Tryd.prog 6 #[.slice none 0 0] w fun e w' => e = .returned (.bool true) ∧ Below w.heap.size w w' := by
  refine (callsIn_wide (n := 20)).1 ?_
  refine callsIn_of_wp_marks Tryd.func6 rfl trivial ?_ rfl
  simp only [Tryd.ntmps6, List.size_toArray, List.length_cons, List.length_nil, Nat.reduceAdd, Nat.reduceSub, Array.replicate_succ, Array.replicate_zero, List.push_toArray, List.append_toArray, List.nil_append, List.cons_append]
  gi_wp2_with (first
    | (gi_at_call 8; refine (callsIn_wide.2 (awake_c _)).mono ?_; rintro e w' ⟨rfl, rfl⟩)
    | (refine ⟨trivial, ?_⟩; gi_at_call 8; refine (callsIn_wide.2 (awake_c _)).mono ?_; rintro e w' ⟨rfl, rfl⟩))
  gi_loopw [4] (fun i wr => i = .int .i64 0 ∧ Hid (Gathers w wr (cellsOf []))) (fun _ _ => 0)
  case atStart =>
    refine ⟨rfl, Lib.hid ⟨none, 0, 0, ?_, ?_, ?_, ?_, ?_, ?_, by simp⟩⟩
    · have := World.cell?_alloc_new (w.alloc (.cells #[.bool false] 4)) #[.slice none 0 0] 40 0
      rw [World.size_alloc] at this; exact this
    · have := World.frozen?_alloc_new (w.alloc (.cells #[.bool false] 4)) #[.slice none 0 0] 40 0
      rw [World.size_alloc] at this; exact this
    · exact World.ownsRow_nil _ _ _ _
    · exact (((Below.refl (w.heap.size + 1) (w.alloc (.cells #[.bool false] 4))).alloc (by simp) _).cell (p := ⟨w.heap.size, 0, none⟩) (by simp)).trans (World.cell?_alloc_new w _ _ 0)
    · exact (((Below.refl (w.heap.size + 1) (w.alloc (.cells #[.bool false] 4))).alloc (by simp) _).frozen (p := ⟨w.heap.size, 0, none⟩) (by simp)).trans (World.frozen?_alloc_new w _ _ 0)
    · exact ((Below.refl _ w).alloc (Nat.le_refl _) _).alloc (by simp) _
  case round =>
    obtain ⟨rfl, HG2⟩ := hrel
    obtain ⟨a, n, c, hv, hf, hrow, hr, hrf, hB, hz⟩ := HG2.out
    gi_wp2_with (first
      | (refine ⟨trivial, ?_⟩; gi_at_call 22; refine (callsIn_wide.2 (cellsFn _ [] _ (Lib.hid (clone_nil _)))).mono ?_))
    rintro e W1 ⟨Bw, Bs, sv, rfl, hBw, hBs, hcw, hcs, hW, hB1⟩
    have hseq := cells_seq (20 - 1) (by decide) Bw Bs _ _ sv [] (by decide) W1 hBw hBs (Nat.le_refl _) hcw hcs hW
    have hzN : wr.heap.size + 1 ≤ W1.heap.size := by have := hB1.size; simpa using this
    have hbA : Below wr.heap.size wr (wr.alloc (.cells #[.int .i64 0] 3)) := (Below.refl _ wr).alloc (Nat.le_refl _) _
    have hbW : Below wr.heap.size wr W1 := hbA.trans (hB1.mono (by simp))
    obtain rfl : n = (cellsOf []).length := by
      rcases hrow.2 with ⟨h1, h2⟩ | ⟨g, cap', cur, h1, _⟩
      · cases h1; exact h2.symm
      · cases h1; rfl
    have hne : Value.ownBlock (.slice a (cellsOf []).length c) ≠ some wr.heap.size := fun e => by have := (hrow.lt _ e).2; omega
    have hI0 : Checks w wr.heap.size a c (cellsOf []) [] W1 := by
      refine ⟨List.nil_prefix, ?_, ?_, (hbW.cell (p := ⟨w.heap.size + 1, 0, none⟩) (by simp only; omega)).trans hv, ?_, (hbW.cell (p := ⟨w.heap.size, 0, none⟩) (by simp only; omega)).trans hr, (hbW.frozen (p := ⟨w.heap.size, 0, none⟩) (by simp only; omega)).trans hrf, hB.trans (hbW.mono hB.size)⟩
      · exact (hB1.cell (p := ⟨wr.heap.size, 0, none⟩) (by simp)).trans (World.cell?_alloc_new wr _ _ 0)
      · exact (hB1.frozen (p := ⟨wr.heap.size, 0, none⟩) (by simp)).trans (World.frozen?_alloc_new wr _ _ 0)
      · exact hrow.kept (row := none) ⟨hbW.os, hbW.tape, hbW.output, hbW.size, fun k hk _ => hbW.block k hk⟩ (by
          cases hob : Value.ownBlock (.slice a (cellsOf []).length c) with
          | none => exact .inl rfl
          | some g => exact .inr (by simp))
    have hlw : (cellsOf []).length ≤ 60 := by decide
    have HI0 := Lib.hid hI0
    have HN := Lib.hid hne
    have HS := Lib.hid hseq
    clear hseq hI0 hne hW hB1 hbA hbW hcw hcs hBw hBs hrow hv hf hr hrf hB HG2
    generalize cellsOf [] = want at *
    gi_wp2
    refine wpIn_rangeX rfl (by decide) (gf := 32) (lb := #[.pointer (some ⟨Bw, 0, none⟩)]) rfl trivial (enters_of Tryd.func32 (by kernel_rfl) rfl)
      HS.out KeepsIn.trans (keepsIn_b (Nat.le_refl _)) (Below.refl _ _) (fun _ => rfl)
      (Checks w wr.heap.size a c want) (fun cc pre _ => cc = .ret ∧ ¬ pre <+: want)
      (Checks.own _ _ _ _ _ _ (by omega)) (fun cc => ownFrom_pure _ _) HI0.out
      (fun x => { tmps := #[.slice none 0 0, undef, .pointer (some ⟨w.heap.size, 0, none⟩), .pointer (some ⟨w.heap.size + 1, 0, none⟩), .int .i64 0, u5, .pointer (some ⟨wr.heap.size, 0, none⟩), .int .i64 (x : Int), .bool true, .bool false,
        .slice none 0 0, .int .i64 0, .bool false, .int .i64 0, .slice none 0 0, .int .i64 0, .bool false,
        u17, u18, u19, u20, u21, u22, u23, u24, u25, u26, u27, u28, u29, .slice none 0 0, .func (.func 32) #[] #[.pointer (some ⟨Bw, 0, none⟩)], .int .i64 (x : Int), undef, undef, undef,
        undef, undef, undef, undef, undef, undef, undef, undef, undef, undef, undef, undef, undef, undef, undef], defers := [] }) ?assign ?body ?done ?stop
    case assign =>
      intro l x W K hK
      gi_wp2
      exact hK
    case body =>
      rintro l pre x W HC hlen
      exact absurd hlen (by simp)
    case done =>
      rintro D ys W hD rfl ⟨_, h2, h3, h4, h5, h6, h7, h8⟩ hK
      clear h5
      gi_wp2
      have hK' := (KeepsOthers.setCell W ⟨w.heap.size, 0, none⟩ (.bool true)).same D _ hK rfl
      refine ⟨by simp, .inl ⟨_, _, rfl, run_takeDeferred hK', ?_⟩⟩
      have hc5 := cell_kept (World.cell?_setCell_same' W ⟨w.heap.size, 0, none⟩ (.bool true) (by rw [h6]; rfl)) (grownBy_putObj' _ D (.deferred none)) (fun r e => by cases e; exact ⟨_, hK', rfl⟩)
      refine ⟨.bool true, ?_, rfl, (h8.setCell (p := ⟨w.heap.size, 0, none⟩) (Nat.le_refl _) _).trans (belowK_b (w := w) (Nat.le_refl _) _ D _ _ (by omega) hK' rfl rfl)⟩
      simp [results, Tryd.f6, go_sem, hc5]
    case stop =>
      rintro D cc pre W hD hpre ⟨rfl, hnot⟩ hK
      exact absurd hpre hnot

set_option maxHeartbeats 4000000 in
theorem cellsLaw_zero (ad : Addr) (cap : Nat) (w : World) : Calls Tryd.prog 6 #[.slice (some ad) 0 cap] w fun e w' => e = .returned (.bool true) ∧ Below w.heap.size w w' := by
  refine (callsIn_wide (n := 20)).1 ?_
  refine callsIn_of_wp_marks Tryd.func6 rfl trivial ?_ rfl
  simp only [Tryd.ntmps6, List.size_toArray, List.length_cons, List.length_nil, Nat.reduceAdd, Nat.reduceSub, Array.replicate_succ, Array.replicate_zero, List.push_toArray, List.append_toArray, List.nil_append, List.cons_append]
  gi_wp2_with (first
    | (gi_at_call 8; refine (callsIn_wide.2 (awake_c _)).mono ?_; rintro e w' ⟨rfl, rfl⟩)
    | (refine ⟨trivial, ?_⟩; gi_at_call 8; refine (callsIn_wide.2 (awake_c _)).mono ?_; rintro e w' ⟨rfl, rfl⟩))
  gi_loopw [4] (fun i wr => i = .int .i64 0 ∧ Hid (Gathers w wr (cellsOf []))) (fun _ _ => 0)
  case atStart =>
    refine ⟨rfl, Lib.hid ⟨none, 0, 0, ?_, ?_, ?_, ?_, ?_, ?_, by simp⟩⟩
    · have := World.cell?_alloc_new (w.alloc (.cells #[.bool false] 4)) #[.slice none 0 0] 40 0
      rw [World.size_alloc] at this; exact this
    · have := World.frozen?_alloc_new (w.alloc (.cells #[.bool false] 4)) #[.slice none 0 0] 40 0
      rw [World.size_alloc] at this; exact this
    · exact World.ownsRow_nil _ _ _ _
    · exact (((Below.refl (w.heap.size + 1) (w.alloc (.cells #[.bool false] 4))).alloc (by simp) _).cell (p := ⟨w.heap.size, 0, none⟩) (by simp)).trans (World.cell?_alloc_new w _ _ 0)
    · exact (((Below.refl (w.heap.size + 1) (w.alloc (.cells #[.bool false] 4))).alloc (by simp) _).frozen (p := ⟨w.heap.size, 0, none⟩) (by simp)).trans (World.frozen?_alloc_new w _ _ 0)
    · exact ((Below.refl _ w).alloc (Nat.le_refl _) _).alloc (by simp) _
  case round =>
    obtain ⟨rfl, HG2⟩ := hrel
    obtain ⟨a, n, c, hv, hf, hrow, hr, hrf, hB, hz⟩ := HG2.out
    gi_wp2_with (first
      | (refine ⟨trivial, ?_⟩; gi_at_call 22; refine (callsIn_wide.2 (cellsFn _ [] _ (Lib.hid (clone_zero ad cap _)))).mono ?_))
    rintro e W1 ⟨Bw, Bs, sv, rfl, hBw, hBs, hcw, hcs, hW, hB1⟩
    have hseq := cells_seq (20 - 1) (by decide) Bw Bs _ _ sv [] (by decide) W1 hBw hBs (Nat.le_refl _) hcw hcs hW
    have hzN : wr.heap.size + 1 ≤ W1.heap.size := by have := hB1.size; simpa using this
    have hbA : Below wr.heap.size wr (wr.alloc (.cells #[.int .i64 0] 3)) := (Below.refl _ wr).alloc (Nat.le_refl _) _
    have hbW : Below wr.heap.size wr W1 := hbA.trans (hB1.mono (by simp))
    obtain rfl : n = (cellsOf []).length := by
      rcases hrow.2 with ⟨h1, h2⟩ | ⟨g, cap', cur, h1, _⟩
      · cases h1; exact h2.symm
      · cases h1; rfl
    have hne : Value.ownBlock (.slice a (cellsOf []).length c) ≠ some wr.heap.size := fun e => by have := (hrow.lt _ e).2; omega
    have hI0 : Checks w wr.heap.size a c (cellsOf []) [] W1 := by
      refine ⟨List.nil_prefix, ?_, ?_, (hbW.cell (p := ⟨w.heap.size + 1, 0, none⟩) (by simp only; omega)).trans hv, ?_, (hbW.cell (p := ⟨w.heap.size, 0, none⟩) (by simp only; omega)).trans hr, (hbW.frozen (p := ⟨w.heap.size, 0, none⟩) (by simp only; omega)).trans hrf, hB.trans (hbW.mono hB.size)⟩
      · exact (hB1.cell (p := ⟨wr.heap.size, 0, none⟩) (by simp)).trans (World.cell?_alloc_new wr _ _ 0)
      · exact (hB1.frozen (p := ⟨wr.heap.size, 0, none⟩) (by simp)).trans (World.frozen?_alloc_new wr _ _ 0)
      · exact hrow.kept (row := none) ⟨hbW.os, hbW.tape, hbW.output, hbW.size, fun k hk _ => hbW.block k hk⟩ (by
          cases hob : Value.ownBlock (.slice a (cellsOf []).length c) with
          | none => exact .inl rfl
          | some g => exact .inr (by simp))
    have hlw : (cellsOf []).length ≤ 60 := by decide
    have HI0 := Lib.hid hI0
    have HN := Lib.hid hne
    have HS := Lib.hid hseq
    clear hseq hI0 hne hW hB1 hbA hbW hcw hcs hBw hBs hrow hv hf hr hrf hB HG2
    generalize cellsOf [] = want at *
    gi_wp2
    refine wpIn_rangeX rfl (by decide) (gf := 32) (lb := #[.pointer (some ⟨Bw, 0, none⟩)]) rfl trivial (enters_of Tryd.func32 (by kernel_rfl) rfl)
      HS.out KeepsIn.trans (keepsIn_b (Nat.le_refl _)) (Below.refl _ _) (fun _ => rfl)
      (Checks w wr.heap.size a c want) (fun cc pre _ => cc = .ret ∧ ¬ pre <+: want)
      (Checks.own _ _ _ _ _ _ (by omega)) (fun cc => ownFrom_pure _ _) HI0.out
      (fun x => { tmps := #[.slice (some ad) 0 cap, undef, .pointer (some ⟨w.heap.size, 0, none⟩), .pointer (some ⟨w.heap.size + 1, 0, none⟩), .int .i64 0, u5, .pointer (some ⟨wr.heap.size, 0, none⟩), .int .i64 (x : Int), .bool true, .bool false,
        .slice (some ad) 0 cap, .int .i64 0, .bool false, .int .i64 0, .slice (some ad) 0 cap, .int .i64 0, .bool false,
        u17, u18, u19, u20, u21, u22, u23, u24, u25, u26, u27, u28, u29, .slice (some ad) 0 cap, .func (.func 32) #[] #[.pointer (some ⟨Bw, 0, none⟩)], .int .i64 (x : Int), undef, undef, undef,
        undef, undef, undef, undef, undef, undef, undef, undef, undef, undef, undef, undef, undef, undef, undef], defers := [] }) ?assign ?body ?done ?stop
    case assign =>
      intro l x W K hK
      gi_wp2
      exact hK
    case body =>
      rintro l pre x W HC hlen
      exact absurd hlen (by simp)
    case done =>
      rintro D ys W hD rfl ⟨_, h2, h3, h4, h5, h6, h7, h8⟩ hK
      clear h5
      gi_wp2
      have hK' := (KeepsOthers.setCell W ⟨w.heap.size, 0, none⟩ (.bool true)).same D _ hK rfl
      refine ⟨by simp, .inl ⟨_, _, rfl, run_takeDeferred hK', ?_⟩⟩
      have hc5 := cell_kept (World.cell?_setCell_same' W ⟨w.heap.size, 0, none⟩ (.bool true) (by rw [h6]; rfl)) (grownBy_putObj' _ D (.deferred none)) (fun r e => by cases e; exact ⟨_, hK', rfl⟩)
      refine ⟨.bool true, ?_, rfl, (h8.setCell (p := ⟨w.heap.size, 0, none⟩) (Nat.le_refl _) _).trans (belowK_b (w := w) (Nat.le_refl _) _ D _ _ (by omega) hK' rfl rfl)⟩
      simp [results, Tryd.f6, go_sem, hc5]
    case stop =>
      rintro D cc pre W hD hpre ⟨rfl, hnot⟩ hK
      exact absurd hpre hnot

set_option maxHeartbeats 1000000 in
theorem cellsLaw_long (a : Option Addr) (len cap : Nat) (hl : 60 < len) (hm : len ≤ 9223372036854775807) (w : World) :
    Calls Tryd.prog 6 #[.slice a len cap] w fun e w' => e = .returned (.bool true) ∧ Below w.heap.size w w' := by
  go_enter Tryd.func6, Tryd.ntmps6
  go_wp2_with fail
  refine (awake_c _).mono ?_
  rintro e w' ⟨rfl, rfl⟩
  go_wp2_with fail
  refine bodyPost_ret (v := .bool true) (by simp [results, Tryd.f6, go_sem]) rfl ⟨rfl, ?_⟩
  exact (Below.refl _ w).alloc (Nat.le_refl _) _
end Go.Proofs.YtlnnnjlmfndlbaaDoor
