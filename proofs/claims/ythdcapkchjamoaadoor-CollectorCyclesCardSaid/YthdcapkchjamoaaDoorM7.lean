/- Laid together: ColFrame19, ColPure19, RootsCalls, SweepDoN. -/
import Derived.Test.YthdcapkchjamoaaDoorM1
import Derived.Test.YthdcapkchjamoaaDoorColF
import Derived.Stop.LaidErr
import Derived.Carry
import Derived.JoinedOf
import Derived.SizedLaws
import Derived.Test.YthdcapkchjamoaaDoorM6
import Derived.Test.YthdcapkchjamoaaDoorRounds
import Derived.Test.YthdcapkchjamoaaDoorM4
/- What the listed variable holds, for the cards of this stage; a slice of words, and how far a mutator is, as arguments that were read. -/
namespace Go.Proofs.YthdcapkchjamoaaDoor
open Go Go.ChangeShapes Go.WideShapes Go.ChangeAt Go.WideMaps Go.WideElems Go.RowKit
set_option maxRecDepth 100000
/-- The list of the listed variables, as the rows have it. -/
abbrev listed : List (String × DataW Unit) := Rows.collectorCyclesRow.laid
theorem spans_of {W : World} (h : laidMetH Tryd.prog listed W) : SpansAt W := by
  rw [MakeChecks.laidMetH_plain _ _ _ (by kernel_rfl)] at h
  have h1 : laidMet Tryd.prog (("mudlark/config.spans", Rows.laid_mudlark_config_spans) :: []) W := h
  exact spansAt h1
theorem laidOut : laidOutB Tryd.prog = true := by kernel_rfl
theorem cellsWord : Tryd.prog.cellsOf 35 = 1 := by kernel_rfl
theorem u64_of {x : Int} (h : (Lit.int .u64 x).wf = true) : U64 x := by have := bounds_u64 h; unfold U64; omega
theorem u64_nat {n : Int} (h : (Lit.int .u64 n).wf = true) : ∃ m : Nat, n = m ∧ m < 18446744073709551616 := by
  have hb := bounds_u64 h
  exact ⟨n.toNat, by omega, by omega⟩
theorem u8_nat {n : Int} (h : (Lit.int .u8 n).wf = true) : ∃ m : Nat, n = m ∧ m < 256 := by
  have hb := bounds_u8 h
  exact ⟨n.toNat, by omega, by omega⟩
/-- A number that an int can be. -/
def inI (x : Int) : Prop := -9223372036854775808 ≤ x ∧ x ≤ 9223372036854775807
theorem inI_of {x : Int} (h : (Lit.int .i64 x).wf = true) : inI x := by have := bounds_i64 h; unfold inI; omega
theorem given_of {H : Type} {enc : TypeId × Value → H} {W : World} {base b0 : Nat} {r : Reach} {v : Value} {d : DataW H} {p : List MemPlace}
    (hval : Value.okWide Tryd.prog W r b0 24 v) (h : DataW.Trod enc Tryd.prog W base (fun _ => true) true 24 v d p) :
    ∃ a n cap f, v = .slice a n cap ∧ Given W a n cap f := by
  obtain ⟨a0, len0, cap0, rfl⟩ := okWide_slice Tryd.underlying24 hval
  obtain ⟨fuel, hf⟩ := h
  rcases open_ints Tryd.underlying24 Tryd.underlying35 cellsWord hf with ⟨hcs, _⟩ | ⟨x, l, c, zs, hcs, _, hl, hm, hz, _, hcell, hwz⟩
  · simp [Value.cells] at hcs
    obtain ⟨rfl, rfl, rfl⟩ := hcs
    exact ⟨none, 0, 0, fun _ => 0, rfl, by omega, .inl rfl, fun _ => ⟨Int.le_refl 0, show (0 : Int) < 18446744073709551616 by decide⟩, fun _ => ⟨rfl, rfl⟩⟩
  · simp [Value.cells] at hcs
    obtain ⟨rfl, rfl, rfl⟩ := hcs
    refine ⟨some x, len0, cap0, fun j => zs[j]?.getD 0, rfl, by unfold maxLen at hm; omega, ?_, fun j => (by have := range_u64 hwz j; unfold U64; omega : U64 (zs[j]?.getD 0)), fun e => by cases e⟩
    have hz' : cap0 = zs.length := by simpa using hz.symm
    by_cases h0 : len0 = 0
    · exact .inl h0
    · obtain ⟨b, off, rfl, hc'⟩ := ints_at hcell (show 0 < zs.length by omega)
      exact .inr ⟨b, off, rfl, lt_of_cell (hc' 0 (by omega)), fun j hj => by rw [hc' j (by omega)]; simp [List.getD]⟩
theorem cellsBool : Tryd.prog.cellsOf 4 = 1 := by kernel_rfl
theorem cellsCol : Tryd.prog.cellsOf 37 = 9 := by kernel_rfl
theorem col_cells {H : Type} {enc : TypeId × Value → H} {w : World} {bs : Nat} {sp : Nat → Bool} {held : Bool} {fuel : Nat} {f0 f1 f2 f3 f4 f5 f6 f7 f8 : Field} {cs : List Value} {z : DataW H × List MemPlace}
    (ht : Tryd.prog.underlying 37 = some (.struct #[f0, f1, f2, f3, f4, f5, f6, f7, f8])) (e0 : f0.type = 3 ∧ f0.offset = 0) (e1 : f1.type = 3 ∧ f1.offset = 1) (e2 : f2.type = 3 ∧ f2.offset = 2) (e3 : f3.type = 3 ∧ f3.offset = 3) (e4 : f4.type = 35 ∧ f4.offset = 4) (e5 : f5.type = 35 ∧ f5.offset = 5) (e6 : f6.type = 4 ∧ f6.offset = 6) (e7 : f7.type = 3 ∧ f7.offset = 7) (e8 : f8.type = 3 ∧ f8.offset = 8)
    (h : DataW.trod enc Tryd.prog w bs sp held fuel 37 cs = some z) :
    ∃ q : Co, (cs[0]? = some (.int .i64 q.l) ∧ cs[1]? = some (.int .i64 q.j) ∧ cs[2]? = some (.int .i64 q.c) ∧ cs[3]? = some (.int .i64 q.m) ∧ cs[4]? = some (.int .u64 q.a) ∧ cs[5]? = some (.int .u64 q.p) ∧ cs[6]? = some (.bool q.fd) ∧ cs[7]? = some (.int .i64 q.tl) ∧ cs[8]? = some (.int .i64 q.cy)) ∧ q.U ∧ inI q.l ∧ inI q.j ∧ inI q.c ∧ inI q.m ∧ inI q.tl ∧ inI q.cy := by
  obtain ⟨xs, n, _, _, _, hl, hf⟩ := DataW.trod_struct ht h
  have g0 := hf 0 f0 rfl
  have g1 := hf 1 f1 rfl
  have g2 := hf 2 f2 rfl
  have g3 := hf 3 f3 rfl
  have g4 := hf 4 f4 rfl
  have g5 := hf 5 f5 rfl
  have g6 := hf 6 f6 rfl
  have g7 := hf 7 f7 rfl
  have g8 := hf 8 f8 rfl
  simp only [e0.1, e0.2, e1.1, e1.2, e2.1, e2.2, e3.1, e3.2, e4.1, e4.2, e5.1, e5.2, e6.1, e6.2, e7.1, e7.2, e8.1, e8.2, cellsInt, cellsWord, cellsBool] at g0 g1 g2 g3 g4 g5 g6 g7 g8
  have hl' : xs.length = 9 := hl
  match xs, hl' with
  | [y0, y1, y2, y3, y4, y5, y6, y7, y8], _ =>
    obtain ⟨l, c0, _, w0⟩ := DataW.trod_int Tryd.underlying3 (g0.trans rfl)
    obtain ⟨j, c1, _, w1⟩ := DataW.trod_int Tryd.underlying3 (g1.trans rfl)
    obtain ⟨c, c2, _, w2⟩ := DataW.trod_int Tryd.underlying3 (g2.trans rfl)
    obtain ⟨m, c3, _, w3⟩ := DataW.trod_int Tryd.underlying3 (g3.trans rfl)
    obtain ⟨a, c4, _, w4⟩ := DataW.trod_int Tryd.underlying35 (g4.trans rfl)
    obtain ⟨p, c5, _, w5⟩ := DataW.trod_int Tryd.underlying35 (g5.trans rfl)
    obtain ⟨fd, c6, _⟩ := DataW.trod_bool Tryd.underlying4 (g6.trans rfl)
    obtain ⟨tl, c7, _, w7⟩ := DataW.trod_int Tryd.underlying3 (g7.trans rfl)
    obtain ⟨cy, c8, _, w8⟩ := DataW.trod_int Tryd.underlying3 (g8.trans rfl)
    have k0 := congrArg (·[0]?) c0
    have k1 := congrArg (·[0]?) c1
    have k2 := congrArg (·[0]?) c2
    have k3 := congrArg (·[0]?) c3
    have k4 := congrArg (·[0]?) c4
    have k5 := congrArg (·[0]?) c5
    have k6 := congrArg (·[0]?) c6
    have k7 := congrArg (·[0]?) c7
    have k8 := congrArg (·[0]?) c8
    simp [List.getElem?_drop] at k0 k1 k2 k3 k4 k5 k6 k7 k8
    exact ⟨⟨l, j, c, m, a, p, fd, tl, cy⟩, ⟨k0, k1, k2, k3, k4, k5, k6, k7, k8⟩, ⟨u64_of w4, u64_of w5⟩, inI_of w0, inI_of w1, inI_of w2, inI_of w3, inI_of w7, inI_of w8⟩
theorem col_of {H : Type} {enc : TypeId × Value → H} {W : World} {base b0 : Nat} {r : Reach} {v : Value} {d : DataW H} {p : List MemPlace}
    (hval : Value.okWide Tryd.prog W r b0 37 v) (h : DataW.Trod enc Tryd.prog W base (fun _ => true) true 37 v d p) : ∃ q : Co, v = q.v ∧ q.U ∧ inI q.l ∧ inI q.j ∧ inI q.c ∧ inI q.m ∧ inI q.tl ∧ inI q.cy := by
  obtain ⟨cs, rfl, hsz⟩ := okWide_struct Tryd.underlying37 hval
  rw [cellsCol] at hsz
  obtain ⟨fuel, hf⟩ := h
  obtain ⟨q, ⟨k0, k1, k2, k3, k4, k5, k6, k7, k8⟩, hU⟩ := col_cells Tryd.underlying37 ⟨rfl, rfl⟩ ⟨rfl, rfl⟩ ⟨rfl, rfl⟩ ⟨rfl, rfl⟩ ⟨rfl, rfl⟩ ⟨rfl, rfl⟩ ⟨rfl, rfl⟩ ⟨rfl, rfl⟩ ⟨rfl, rfl⟩ hf
  refine ⟨q, ?_, hU⟩
  have hcs : cs = #[.int .i64 q.l, .int .i64 q.j, .int .i64 q.c, .int .i64 q.m, .int .u64 q.a, .int .u64 q.p, .bool q.fd, .int .i64 q.tl, .int .i64 q.cy] := by
    obtain ⟨cl⟩ := cs
    match cl, hsz with
    | [a0, a1, a2, a3, a4, a5, a6, a7, a8], _ =>
      simp [Value.cells] at k0 k1 k2 k3 k4 k5 k6 k7 k8
      rw [k0, k1, k2, k3, k4, k5, k6, k7, k8]
  rw [hcs]
/-- As given_of, and the slice is no longer than its capacity. -/
theorem given_cap {H : Type} {enc : TypeId × Value → H} {W : World} {base b0 : Nat} {r : Reach} {v : Value} {d : DataW H} {p : List MemPlace}
    (hval : Value.okWide Tryd.prog W r b0 24 v) (h : DataW.Trod enc Tryd.prog W base (fun _ => true) true 24 v d p) :
    ∃ a n cap f, v = .slice a n cap ∧ Given W a n cap f ∧ n ≤ cap := by
  obtain ⟨a, n, cap, f, hv, hG⟩ := given_of hval h
  refine ⟨a, n, cap, f, hv, hG, ?_⟩
  obtain ⟨fuel, hf⟩ := h
  rcases open_ints Tryd.underlying24 Tryd.underlying35 cellsWord hf with ⟨hcs, _⟩ | ⟨x, l, c, zs, hcs, _, hl, hm, hz, hx, _, _⟩
  · subst hv
    simp [Value.cells] at hcs
    omega
  · subst hv
    simp [Value.cells] at hcs
    obtain ⟨rfl, rfl, rfl⟩ := hcs
    exact hl
end Go.Proofs.YthdcapkchjamoaaDoor
/- Whether the collector marks, how far it has swept; its step is a layer's, without memory. -/
namespace Go.Proofs.YthdcapkchjamoaaDoor
open Go Go.RowKit
set_option maxRecDepth 100000
attribute [local go_sem ↓] Go.wp_at_zero Go.wp_at_succ

/-- Does the collector mark? -/
def marksL (l : Int) : Bool := decide ((0 < l ∧ l < 14) ∨ l = 15 ∨ l = 16)
/-- How many cells a sweep has gone through. -/
def sweptN (l c : Int) : Int := if 20 ≤ l ∧ l ≤ 24 then c else if l = 14 then 0 else -1
theorem Dy.clr_U {s : Dy} (h : s.U) : s.clr.U := h
theorem Dy.clr_clr (s : Dy) : s.clr.clr = s.clr := rfl
theorem colS_clr (C : Cf) (s : Dy) (x : Co) : colS C s.clr x = colS C s x := rfl
theorem colS_low {C : Cf} {s : Dy} {x : Co} (h : x.l ≤ 2) : (colS C s x).1 = (rootS C s.clr x).1 ∧ (colS C s x).2.1 = (rootS C s.clr x).2.1 ∧ (colS C s x).2.2 = 0 := by
  unfold colS
  by_cases h12 : x.l = 1 ∨ x.l = 2
  · rw [if_pos h12]; exact ⟨rfl, rfl, rfl⟩
  · rw [if_neg h12, if_neg (by omega), if_neg (by omega)]
    have e1 : rootS C s.clr x = (s.clr, x, false) := by unfold rootS; rw [if_neg (by omega), if_neg (by omega)]
    have e2 : sweepS C s.clr x = (s.clr, x, 0, false) := by unfold sweepS; rw [if_neg (by omega), if_neg (by omega), if_neg (by omega), if_neg (by omega), if_neg (by omega)]
    rw [e1, e2]; exact ⟨rfl, rfl, rfl⟩
theorem colS_pass {C : Cf} {s : Dy} {x : Co} (h : ¬ x.l ≤ 2) (h9 : x.l ≤ 9) : (colS C s x).1 = (passS C s.clr x).1 ∧ (colS C s x).2.1 = (passS C s.clr x).2.1 ∧ (colS C s x).2.2 = 0 := by
  unfold colS
  rw [if_neg (by omega), if_pos (by omega)]; exact ⟨rfl, rfl, rfl⟩
theorem colS_shut {C : Cf} {s : Dy} {x : Co} (h : ¬ x.l ≤ 9) (h9 : x.l ≤ 16) : (colS C s x).1 = (shutS C s.clr x).1 ∧ (colS C s x).2.1 = (shutS C s.clr x).2.1 ∧ (colS C s x).2.2 = (if (shutS C s.clr x).2.2.1 then 1 else 0) := by
  unfold colS
  rw [if_neg (by omega), if_neg (by omega), if_pos (by omega)]; exact ⟨rfl, rfl, rfl⟩
theorem colS_sweep {C : Cf} {s : Dy} {x : Co} (h : ¬ x.l ≤ 16) : (colS C s x).1 = (sweepS C s.clr x).1 ∧ (colS C s x).2.1 = (sweepS C s.clr x).2.1 ∧ (colS C s x).2.2 = (sweepS C s.clr x).2.2.1 := by
  unfold colS
  rw [if_neg (by omega), if_neg (by omega), if_neg (by omega)]; exact ⟨rfl, rfl, rfl⟩
end Go.Proofs.YthdcapkchjamoaaDoor
/- next, Begin and Scanned of package roots; the document's Scanned. -/
namespace Go.Proofs.YthdcapkchjamoaaDoor
open Go Go.RowKit
set_option maxRecDepth 100000
attribute [local go_sem ↓] Go.wp_at_zero Go.wp_at_succ

theorem rootsN_right {C : Cf} (hr : Right C.a C.b C.c C.d) : 1 ≤ rootsN C ∧ rootsN C ≤ 5000 := by
  have hp := hr.prod
  unfold Right at hr
  unfold rootsN
  omega
theorem next_more (l j c m a p : Int) (fd : Bool) (tl cy : Int) (n : Int) (hn : 1 ≤ n ∧ n ≤ 5000) (hj : -1000000000000 ≤ j ∧ j ≤ 1000000000000) (h : j + 1 < n) (w : World) :
    Calls Tryd.prog 54 #[(colV l j c m a p fd tl cy), .int .i64 n] w fun e w' => e = .returned (colV 1 (j + 1) c m a 0 fd tl cy) ∧ Below w.heap.size w w' := by
  have hw1 : IntKind.i64.wrap (n - 1) = n - 1 := IntWalk.i64_in _ (by omega)
  have hw2 : IntKind.i64.wrap (j + 1) = j + 1 := IntWalk.i64_in _ (by omega)
  have hlt : j < n - 1 := by omega
  clear hn hj h
  go_enter Tryd.func54, Tryd.ntmps54
  go_wp2_with fail
  refine bodyPost_ret (v := (colV 1 (j + 1) c m a 0 fd tl cy)) (by simp [results, Tryd.f54, go_sem]) rfl ?_
  exact ⟨rfl, below_on (below_new _ _) _⟩
theorem next_over (l j c m a p : Int) (fd : Bool) (tl cy : Int) (n : Int) (hn : 1 ≤ n ∧ n ≤ 5000) (hj : -1000000000000 ≤ j ∧ j ≤ 1000000000000) (h : ¬ j + 1 < n) (w : World) :
    Calls Tryd.prog 54 #[(colV l j c m a p fd tl cy), .int .i64 n] w fun e w' => e = .returned (colV 3 (j + 1) c m a 0 fd tl cy) ∧ Below w.heap.size w w' := by
  have hw1 : IntKind.i64.wrap (n - 1) = n - 1 := IntWalk.i64_in _ (by omega)
  have hw2 : IntKind.i64.wrap (j + 1) = j + 1 := IntWalk.i64_in _ (by omega)
  have hlt : ¬ j < n - 1 := by omega
  clear hn hj h
  go_enter Tryd.func54, Tryd.ntmps54
  go_wp2_with fail
  refine bodyPost_ret (v := (colV 3 (j + 1) c m a 0 fd tl cy)) (by simp [results, Tryd.f54, go_sem]) rfl ?_
  exact ⟨rfl, below_on (below_new _ _) _⟩
theorem next_c (C : Cf) (hr : Right C.a C.b C.c C.d) (l j c m a p : Int) (fd : Bool) (tl cy : Int) (hj : -1000000000000 ≤ j ∧ j ≤ 1000000000000) (w : World) :
    Calls Tryd.prog 54 #[(colV l j c m a p fd tl cy), .int .i64 (1 + C.d + C.b * C.c)] w fun e w' => e = .returned (nextRoot C ⟨l, j, c, m, a, p, fd, tl, cy⟩).v ∧ Below w.heap.size w w' := by
  have hn := rootsN_right hr
  unfold nextRoot rootsN at *
  by_cases h : j + 1 < (1 + C.d + C.b * C.c)
  · simp only [if_pos h]; exact next_more l j c m a p fd tl cy _ hn hj h w
  · simp only [if_neg h]; exact next_over l j c m a p fd tl cy _ hn hj h w
theorem Begin_c (l j c m a p : Int) (fd : Bool) (tl cy : Int) (w : World) :
    Calls Tryd.prog 23 #[(colV l j c m a p fd tl cy)] w fun e w' => e = .returned (colV 1 0 c m a 0 fd tl cy) ∧ Below w.heap.size w w' := by
  go_enter Tryd.func23, Tryd.ntmps23
  go_wp2_with fail
  refine bodyPost_ret (v := (colV 1 0 c m a 0 fd tl cy)) (by simp [results, Tryd.f23, go_sem]) rfl ?_
  exact ⟨rfl, below_on (below_new _ _) _⟩
end Go.Proofs.YthdcapkchjamoaaDoor
/- Cell of package word; goOn of package sweep. -/
namespace Go.Proofs.YthdcapkchjamoaaDoor
open Go Go.RowKit
set_option maxRecDepth 100000
attribute [local go_sem ↓] Go.wp_at_zero Go.wp_at_succ

theorem pCellW_c (k : Int) (w : World) : Calls Tryd.prog 39 #[.int .i64 k] w fun e w' => e = .returned (.int .u64 (cellW k)) ∧ w = w' := by
  unfold cellW
  by_cases h : 0 ≤ k ∧ k < 4096
  · rw [if_pos h]
    have h1 := cell_pos k.toNat (by omega) w
    rw [show ((k.toNat : Nat) : Int) = k by omega, show ((2 * k.toNat + 1 : Nat) : Int) = 2 * k + 1 by omega] at h1
    exact h1
  · rw [if_neg h]; exact cell_neg k (by omega) w
set_option maxHeartbeats 1600000 in
theorem sgo_more (l j c m a p : Int) (fd : Bool) (tl cy : Int) (n : Int) (_ : 1 ≤ n ∧ n ≤ 5000) (hc : -1000000000000 ≤ c ∧ c ≤ 1000000000000) (_ : -1000000000000 ≤ cy ∧ cy ≤ 1000000000000) (h : c + 1 < n) (w : World) :
    Calls Tryd.prog 62 #[(colV l j c m a p fd tl cy), .int .i64 n] w fun e w' => e = .returned (.tuple #[(colV 20 j (c + 1) m a p fd tl cy), .bool false]) ∧ Below w.heap.size w w' := by
  have hw1 : IntKind.i64.wrap (c + 1) = c + 1 := IntWalk.i64_in _ (by omega)
  have d1 : decide (n ≤ c) = false := decide_eq_false (by omega)
  have d2 : decide (n ≤ c + 1) = false := decide_eq_false (by omega)
  clear hc h
  go_enter Tryd.func62, Tryd.ntmps62
  go_wp2_with fail
  refine bodyPost_ret (v := .tuple #[(colV 20 j (c + 1) m a p fd tl cy), .bool false]) (by simp [results, Tryd.f62, go_sem]) rfl ?_
  exact ⟨rfl, below_on (below_new _ _) _⟩
set_option maxHeartbeats 1600000 in
theorem sgo_past (l j c m a p : Int) (fd : Bool) (tl cy : Int) (n : Int) (_ : 1 ≤ n ∧ n ≤ 5000) (hc : -1000000000000 ≤ c ∧ c ≤ 1000000000000) (hy : -1000000000000 ≤ cy ∧ cy ≤ 1000000000000) (h : n ≤ c) (w : World) :
    Calls Tryd.prog 62 #[(colV l j c m a p fd tl cy), .int .i64 n] w fun e w' => e = .returned (.tuple #[(colV 1 0 (c + 1) m a 0 fd tl (cy + 1)), .bool true]) ∧ Below w.heap.size w w' := by
  have hw1 : IntKind.i64.wrap (c + 1) = c + 1 := IntWalk.i64_in _ (by omega)
  have hw2 : IntKind.i64.wrap (cy + 1) = cy + 1 := IntWalk.i64_in _ (by omega)
  have d1 : decide (n ≤ c) = true := decide_eq_true (by omega)
  have HB2 := Lib.hid (below_on (below_new w (.cells #[.int .i64 l, .int .i64 j, .int .i64 (c + 1), .int .i64 m, .int .u64 a, .int .u64 p, .bool fd, .int .i64 tl, .int .i64 (cy + 1)] 37)) (.cells #[.int .i64 0, .int .i64 0, .int .i64 0, .int .i64 0, .int .u64 0, .int .u64 0, .bool false, .int .i64 0, .int .i64 0] 37))
  have HY2 := Lib.hid (show Col9 ((w.alloc (.cells #[.int .i64 l, .int .i64 j, .int .i64 (c + 1), .int .i64 m, .int .u64 a, .int .u64 p, .bool fd, .int .i64 tl, .int .i64 (cy + 1)] 37)).alloc (.cells #[.int .i64 0, .int .i64 0, .int .i64 0, .int .i64 0, .int .u64 0, .int .u64 0, .bool false, .int .i64 0, .int .i64 0] 37)) (w.heap.size + 1) 0 0 0 0 0 0 false 0 0 from (by have := Col9.new (w.alloc (.cells #[.int .i64 l, .int .i64 j, .int .i64 (c + 1), .int .i64 m, .int .u64 a, .int .u64 p, .bool fd, .int .i64 tl, .int .i64 (cy + 1)] 37)) 0 0 0 0 0 0 false 0 0; simpa using this))
  clear hc hy h
  have HBg : Hid (∀ W, Calls Tryd.prog 23 #[(colV l j (c + 1) m a p fd tl (cy + 1))] W fun e w' => e = .returned (colV 1 0 (c + 1) m a 0 fd tl (cy + 1)) ∧ Below W.heap.size W w') := Lib.hid (fun W => Begin_c l j (c + 1) m a p fd tl (cy + 1) W)
  go_enter Tryd.func62, Tryd.ntmps62
  go_wp2_with fail
  generalize (w.alloc (.cells #[.int .i64 l, .int .i64 j, .int .i64 (c + 1), .int .i64 m, .int .u64 a, .int .u64 p, .bool fd, .int .i64 tl, .int .i64 (cy + 1)] 37)).alloc (.cells #[.int .i64 0, .int .i64 0, .int .i64 0, .int .i64 0, .int .u64 0, .int .u64 0, .bool false, .int .i64 0, .int .i64 0] 37) = W2 at *
  refine (HBg.out _).mono ?_
  rintro e W3 ⟨rfl, hb⟩
  have HB3 := Lib.hid (belowOn HB2.out hb); have HY3 := Lib.hid (HY2.out.below hb)
  clear hb HB2 HY2 HBg
  have HE := Lib.hid ((Sav.put9 (Sav.of (S := fun _ => False) HB3.out) (C := w.heap.size + 1) (.inr (by omega)) 1 0 (c + 1) m a 0 fd tl (cy + 1)).below (Nat.le_refl _) (fun _ _ e => e))
  obtain ⟨c0, c1, c2, c3, c4, c5, c6, c7, c8, cf⟩ := HY3.out.cells
  obtain ⟨s0, s1, s2, s3, s4, s5, s6, s7, s8, sf⟩ := (HY3.out.put 1 0 (c + 1) m a 0 fd tl (cy + 1)).cells
  go_wp2_with fail
  refine bodyPost_ret (v := .tuple #[(colV 1 0 (c + 1) m a 0 fd tl (cy + 1)), .bool true]) (by simp [results, Tryd.f62, go_sem, s0, s1, s2, s3, s4, s5, s6, s7, s8]) rfl ?_
  exact ⟨rfl, HE.out⟩
set_option maxHeartbeats 1600000 in
theorem sgo_last (l j c m a p : Int) (fd : Bool) (tl cy : Int) (n : Int) (_ : 1 ≤ n ∧ n ≤ 5000) (_ : -1000000000000 ≤ c ∧ c ≤ 1000000000000) (hy : -1000000000000 ≤ cy ∧ cy ≤ 1000000000000) (h : ¬ c + 1 < n) (h2 : ¬ n ≤ c) (w : World) :
    Calls Tryd.prog 62 #[(colV l j c m a p fd tl cy), .int .i64 n] w fun e w' => e = .returned (.tuple #[(colV 1 0 (c + 1) m a 0 fd tl (cy + 1)), .bool true]) ∧ Below w.heap.size w w' := by
  have hw1 : IntKind.i64.wrap (c + 1) = c + 1 := IntWalk.i64_in _ (by omega)
  have hw2 : IntKind.i64.wrap (cy + 1) = cy + 1 := IntWalk.i64_in _ (by omega)
  have d1 : decide (n ≤ c) = false := decide_eq_false (by omega)
  have d2 : decide (n ≤ c + 1) = true := decide_eq_true (by omega)
  have HB2 := Lib.hid (below_on (below_new w (.cells #[.int .i64 l, .int .i64 j, .int .i64 (c + 1), .int .i64 m, .int .u64 a, .int .u64 p, .bool fd, .int .i64 tl, .int .i64 (cy + 1)] 37)) (.cells #[.int .i64 0, .int .i64 0, .int .i64 0, .int .i64 0, .int .u64 0, .int .u64 0, .bool false, .int .i64 0, .int .i64 0] 37))
  have HY2 := Lib.hid (show Col9 ((w.alloc (.cells #[.int .i64 l, .int .i64 j, .int .i64 (c + 1), .int .i64 m, .int .u64 a, .int .u64 p, .bool fd, .int .i64 tl, .int .i64 (cy + 1)] 37)).alloc (.cells #[.int .i64 0, .int .i64 0, .int .i64 0, .int .i64 0, .int .u64 0, .int .u64 0, .bool false, .int .i64 0, .int .i64 0] 37)) (w.heap.size + 1) 0 0 0 0 0 0 false 0 0 from (by have := Col9.new (w.alloc (.cells #[.int .i64 l, .int .i64 j, .int .i64 (c + 1), .int .i64 m, .int .u64 a, .int .u64 p, .bool fd, .int .i64 tl, .int .i64 (cy + 1)] 37)) 0 0 0 0 0 0 false 0 0; simpa using this))
  clear hy h h2
  have HBg : Hid (∀ W, Calls Tryd.prog 23 #[(colV l j (c + 1) m a p fd tl (cy + 1))] W fun e w' => e = .returned (colV 1 0 (c + 1) m a 0 fd tl (cy + 1)) ∧ Below W.heap.size W w') := Lib.hid (fun W => Begin_c l j (c + 1) m a p fd tl (cy + 1) W)
  go_enter Tryd.func62, Tryd.ntmps62
  go_wp2_with fail
  generalize (w.alloc (.cells #[.int .i64 l, .int .i64 j, .int .i64 (c + 1), .int .i64 m, .int .u64 a, .int .u64 p, .bool fd, .int .i64 tl, .int .i64 (cy + 1)] 37)).alloc (.cells #[.int .i64 0, .int .i64 0, .int .i64 0, .int .i64 0, .int .u64 0, .int .u64 0, .bool false, .int .i64 0, .int .i64 0] 37) = W2 at *
  refine (HBg.out _).mono ?_
  rintro e W3 ⟨rfl, hb⟩
  have HB3 := Lib.hid (belowOn HB2.out hb); have HY3 := Lib.hid (HY2.out.below hb)
  clear hb HB2 HY2 HBg
  have HE := Lib.hid ((Sav.put9 (Sav.of (S := fun _ => False) HB3.out) (C := w.heap.size + 1) (.inr (by omega)) 1 0 (c + 1) m a 0 fd tl (cy + 1)).below (Nat.le_refl _) (fun _ _ e => e))
  obtain ⟨c0, c1, c2, c3, c4, c5, c6, c7, c8, cf⟩ := HY3.out.cells
  obtain ⟨s0, s1, s2, s3, s4, s5, s6, s7, s8, sf⟩ := (HY3.out.put 1 0 (c + 1) m a 0 fd tl (cy + 1)).cells
  go_wp2_with fail
  refine bodyPost_ret (v := .tuple #[(colV 1 0 (c + 1) m a 0 fd tl (cy + 1)), .bool true]) (by simp [results, Tryd.f62, go_sem, s0, s1, s2, s3, s4, s5, s6, s7, s8]) rfl ?_
  exact ⟨rfl, HE.out⟩
theorem sgo_c (C : Cf) (hr : Right C.a C.b C.c C.d) (l j c m a p : Int) (fd : Bool) (tl cy : Int) (hc : -1000000000000 ≤ c ∧ c ≤ 1000000000000) (hy : -1000000000000 ≤ cy ∧ cy ≤ 1000000000000) (w : World) :
    Calls Tryd.prog 62 #[(colV l j c m a p fd tl cy), .int .i64 C.a] w fun e w' => e = .returned (.tuple #[(nextSwept C ⟨l, j, c, m, a, p, fd, tl, cy⟩).v, .bool (decide (¬ c + 1 < C.a))]) ∧ Below w.heap.size w w' := by
  have hn : 1 ≤ C.a ∧ C.a ≤ 5000 := by unfold Right at hr; omega
  unfold nextSwept
  by_cases h : c + 1 < C.a
  · simp only [if_pos h]; rw [decide_eq_false (fun q => q h)]; exact sgo_more l j c m a p fd tl cy _ hn hc hy h w
  · simp only [if_neg h]; rw [decide_eq_true h]
    by_cases h2 : C.a ≤ c
    · exact sgo_past l j c m a p fd tl cy _ hn hc hy h2 w
    · exact sgo_last l j c m a p fd tl cy _ hn hc hy h h2 w
end Go.Proofs.YthdcapkchjamoaaDoor
