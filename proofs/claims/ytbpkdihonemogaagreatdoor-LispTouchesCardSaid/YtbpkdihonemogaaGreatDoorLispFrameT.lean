/- What the listed variable holds, for the cards of this stage; a slice of words, and how far a mutator is, as arguments that were read. -/
import Derived.Test.YtbpkdihonemogaaGreatDoorM1
import Derived.Test.YtbpkdihonemogaaGreatDoorM2
import Derived.Test.YtbpkdihonemogaaGreatDoorTwo
import Derived.Stop.LaidErr
import Derived.Carry
import Derived.JoinedOf
import Derived.SizedLaws
namespace Go.Proofs.YtbpkdihonemogaaGreatDoor
open Go Go.ChangeShapes Go.WideShapes Go.ChangeAt Go.WideMaps Go.WideElems Go.RowKit
set_option maxRecDepth 100000
/-- The list of the listed variables, as the rows have it. -/
abbrev listed : List (String × DataW Unit) := Rows.lispTouchesRow.laid
theorem spans_of {W : World} (h : laidMetH Tryz.prog listed W) : SpansAt W := by
  rw [MakeChecks.laidMetH_plain _ _ _ (by kernel_rfl)] at h
  have h1 : laidMet Tryz.prog (("mudlark/config.spans", Rows.laid_mudlark_config_spans) :: []) W := h
  exact spansAt h1
theorem laidOut : laidOutB Tryz.prog = true := by kernel_rfl
theorem cellsWord : Tryz.prog.cellsOf 28 = 1 := by kernel_rfl
theorem u64_of {x : Int} (h : (Lit.int .u64 x).wf = true) : U64 x := by have := bounds_u64 h; unfold U64; omega
theorem u64_nat {n : Int} (h : (Lit.int .u64 n).wf = true) : ∃ m : Nat, n = m ∧ m < 18446744073709551616 := by
  have hb := bounds_u64 h
  exact ⟨n.toNat, by omega, by omega⟩
theorem u8_nat {n : Int} (h : (Lit.int .u8 n).wf = true) : ∃ m : Nat, n = m ∧ m < 256 := by
  have hb := bounds_u8 h
  exact ⟨n.toNat, by omega, by omega⟩
theorem inI_of {x : Int} (h : (Lit.int .i64 x).wf = true) : inI x := by have := bounds_i64 h; unfold inI; omega
theorem given_of {H : Type} {enc : TypeId × Value → H} {W : World} {base b0 : Nat} {r : Reach} {v : Value} {d : DataW H} {p : List MemPlace}
    (hval : Value.okWide Tryz.prog W r b0 24 v) (h : DataW.Trod enc Tryz.prog W base (fun _ => true) true 24 v d p) :
    ∃ a n cap f, v = .slice a n cap ∧ Given W a n cap f := by
  obtain ⟨a0, len0, cap0, rfl⟩ := okWide_slice Tryz.underlying24 hval
  obtain ⟨fuel, hf⟩ := h
  rcases open_ints Tryz.underlying24 Tryz.underlying28 cellsWord hf with ⟨hcs, _⟩ | ⟨x, l, c, zs, hcs, _, hl, hm, hz, _, hcell, hwz⟩
  · simp [Value.cells] at hcs
    obtain ⟨rfl, rfl, rfl⟩ := hcs
    exact ⟨none, 0, 0, fun _ => 0, rfl, by omega, .inl rfl, fun _ => ⟨Int.le_refl 0, show (0 : Int) < 18446744073709551616 by decide⟩, fun _ => ⟨rfl, rfl⟩⟩
  · simp [Value.cells] at hcs
    obtain ⟨rfl, rfl, rfl⟩ := hcs
    refine ⟨some x, len0, cap0, fun j => zs[j]?.getD 0, rfl, by unfold maxLen at hm; omega, ?_, fun j => (by have := range_u64 hwz j; unfold U64; omega : U64 (zs[j]?.getD 0)), fun e => by cases e⟩
    have hz' : cap0 = zs.length := by simpa using hz.symm
    by_cases h0 : len0 = 0
    · exact .inl h0
    · obtain ⟨b, off, rfl, hc'⟩ := ints_at hcell (show 0 < zs.length by omega)
      exact .inr ⟨b, off, rfl, lt_of_cell (hc' 0 (by omega)), fun j hj => by rw [hc' j (by omega)]; simp [List.getD]⟩
theorem cellsOp : Tryz.prog.cellsOf 26 = 4 := by kernel_rfl
theorem cellsMut : Tryz.prog.cellsOf 30 = 13 := by kernel_rfl
theorem op_cells {H : Type} {enc : TypeId × Value → H} {P : Program} {w : World} {bs : Nat} {sp : Nat → Bool} {held : Bool} {fuel : Nat} {t ti : TypeId} {f0 f1 f2 f3 : Field} {cs : List Value} {z : DataW H × List MemPlace}
    (ht : P.underlying t = some (.struct #[f0, f1, f2, f3])) (e0 : f0.type = ti ∧ f0.offset = 0) (e1 : f1.type = ti ∧ f1.offset = 1) (e2 : f2.type = ti ∧ f2.offset = 2) (e3 : f3.type = ti ∧ f3.offset = 3)
    (hi : P.underlying ti = some (.int .i64)) (cI : P.cellsOf ti = 1) (h : DataW.trod enc P w bs sp held fuel t cs = some z) :
    ∃ a b c d : Int, cs[0]? = some (.int .i64 a) ∧ cs[1]? = some (.int .i64 b) ∧ cs[2]? = some (.int .i64 c) ∧ cs[3]? = some (.int .i64 d) ∧ inI a ∧ inI b ∧ inI c ∧ inI d := by
  obtain ⟨xs, n, _, _, _, hl, hf⟩ := DataW.trod_struct ht h
  have g0 := hf 0 f0 rfl
  have g1 := hf 1 f1 rfl
  have g2 := hf 2 f2 rfl
  have g3 := hf 3 f3 rfl
  simp only [e0.1, e0.2, e1.1, e1.2, e2.1, e2.2, e3.1, e3.2, cI] at g0 g1 g2 g3
  have hl' : xs.length = 4 := hl
  match xs, hl' with
  | [y0, y1, y2, y3], _ =>
    obtain ⟨a, c0, _, w0⟩ := DataW.trod_int hi (g0.trans rfl)
    obtain ⟨b, c1, _, w1⟩ := DataW.trod_int hi (g1.trans rfl)
    obtain ⟨c, c2, _, w2⟩ := DataW.trod_int hi (g2.trans rfl)
    obtain ⟨d, c3, _, w3⟩ := DataW.trod_int hi (g3.trans rfl)
    have k0 := congrArg (·[0]?) c0
    have k1 := congrArg (·[0]?) c1
    have k2 := congrArg (·[0]?) c2
    have k3 := congrArg (·[0]?) c3
    simp [List.getElem?_drop] at k0 k1 k2 k3
    exact ⟨a, b, c, d, k0, k1, k2, k3, inI_of w0, inI_of w1, inI_of w2, inI_of w3⟩
theorem mut_cells {H : Type} {enc : TypeId × Value → H} {w : World} {bs : Nat} {sp : Nat → Bool} {held : Bool} {fuel : Nat} {f0 f1 f2 f3 f4 f5 f6 f7 f8 f9 : Field} {cs : List Value} {z : DataW H × List MemPlace}
    (ht : Tryz.prog.underlying 30 = some (.struct #[f0, f1, f2, f3, f4, f5, f6, f7, f8, f9])) (e0 : f0.type = 3 ∧ f0.offset = 0) (e1 : f1.type = 26 ∧ f1.offset = 1) (e2 : f2.type = 28 ∧ f2.offset = 5) (e3 : f3.type = 28 ∧ f3.offset = 6) (e4 : f4.type = 28 ∧ f4.offset = 7) (e5 : f5.type = 28 ∧ f5.offset = 8) (e6 : f6.type = 28 ∧ f6.offset = 9) (e7 : f7.type = 28 ∧ f7.offset = 10) (e8 : f8.type = 3 ∧ f8.offset = 11) (e9 : f9.type = 3 ∧ f9.offset = 12)
    (h : DataW.trod enc Tryz.prog w bs sp held fuel 30 cs = some z) :
    ∃ q : Mu, (cs[0]? = some (.int .i64 q.l) ∧ cs[1]? = some (.int .i64 q.q1) ∧ cs[2]? = some (.int .i64 q.q2) ∧ cs[3]? = some (.int .i64 q.q3) ∧ cs[4]? = some (.int .i64 q.q4) ∧ cs[5]? = some (.int .u64 q.m1) ∧ cs[6]? = some (.int .u64 q.m2) ∧ cs[7]? = some (.int .u64 q.m3) ∧ cs[8]? = some (.int .u64 q.m4) ∧ cs[9]? = some (.int .u64 q.m5) ∧ cs[10]? = some (.int .u64 q.p) ∧ cs[11]? = some (.int .i64 q.bk) ∧ cs[12]? = some (.int .i64 q.rt)) ∧ q.U ∧ inI q.l ∧ inI q.q1 ∧ inI q.q2 ∧ inI q.q3 ∧ inI q.q4 := by
  obtain ⟨xs, n, _, _, _, hl, hf⟩ := DataW.trod_struct ht h
  have g0 := hf 0 f0 rfl
  have g1 := hf 1 f1 rfl
  have g2 := hf 2 f2 rfl
  have g3 := hf 3 f3 rfl
  have g4 := hf 4 f4 rfl
  have g5 := hf 5 f5 rfl
  have g6 := hf 6 f6 rfl
  have g7 := hf 7 f7 rfl
  have g8 := hf 8 f8 rfl
  have g9 := hf 9 f9 rfl
  simp only [e0.1, e0.2, e1.1, e1.2, e2.1, e2.2, e3.1, e3.2, e4.1, e4.2, e5.1, e5.2, e6.1, e6.2, e7.1, e7.2, e8.1, e8.2, e9.1, e9.2, cellsInt, cellsOp, cellsWord] at g0 g1 g2 g3 g4 g5 g6 g7 g8 g9
  have hl' : xs.length = 10 := hl
  match xs, hl' with
  | [y0, y1, y2, y3, y4, y5, y6, y7, y8, y9], _ =>
    obtain ⟨l, c0, _, w0⟩ := DataW.trod_int Tryz.underlying3 (g0.trans rfl)
    obtain ⟨q1, q2, q3, q4, k1, k2, k3, k4, i1, i2, i3, i4⟩ := op_cells Tryz.underlying26 ⟨rfl, rfl⟩ ⟨rfl, rfl⟩ ⟨rfl, rfl⟩ ⟨rfl, rfl⟩ Tryz.underlying3 cellsInt (g1.trans rfl)
    obtain ⟨m1, c5, _, w2⟩ := DataW.trod_int Tryz.underlying28 (g2.trans rfl)
    obtain ⟨m2, c6, _, w3⟩ := DataW.trod_int Tryz.underlying28 (g3.trans rfl)
    obtain ⟨m3, c7, _, w4⟩ := DataW.trod_int Tryz.underlying28 (g4.trans rfl)
    obtain ⟨m4, c8, _, w5⟩ := DataW.trod_int Tryz.underlying28 (g5.trans rfl)
    obtain ⟨m5, c9, _, w6⟩ := DataW.trod_int Tryz.underlying28 (g6.trans rfl)
    obtain ⟨p, c10, _, w7⟩ := DataW.trod_int Tryz.underlying28 (g7.trans rfl)
    obtain ⟨bk, c11, _, _⟩ := DataW.trod_int Tryz.underlying3 (g8.trans rfl)
    obtain ⟨rt, c12, _, _⟩ := DataW.trod_int Tryz.underlying3 (g9.trans rfl)
    have k0 := congrArg (·[0]?) c0
    have k5 := congrArg (·[0]?) c5
    have k6 := congrArg (·[0]?) c6
    have k7 := congrArg (·[0]?) c7
    have k8 := congrArg (·[0]?) c8
    have k9 := congrArg (·[0]?) c9
    have k10 := congrArg (·[0]?) c10
    have k11 := congrArg (·[0]?) c11
    have k12 := congrArg (·[0]?) c12
    simp [List.getElem?_drop] at k0 k1 k2 k3 k4 k5 k6 k7 k8 k9 k10 k11 k12
    exact ⟨⟨l, q1, q2, q3, q4, m1, m2, m3, m4, m5, p, bk, rt⟩, ⟨k0, k1, k2, k3, k4, k5, k6, k7, k8, k9, k10, k11, k12⟩, ⟨u64_of w2, u64_of w3, u64_of w4, u64_of w5, u64_of w6, u64_of w7⟩, inI_of w0, i1, i2, i3, i4⟩
theorem mut_of {H : Type} {enc : TypeId × Value → H} {W : World} {base b0 : Nat} {r : Reach} {v : Value} {d : DataW H} {p : List MemPlace}
    (hval : Value.okWide Tryz.prog W r b0 30 v) (h : DataW.Trod enc Tryz.prog W base (fun _ => true) true 30 v d p) : ∃ q : Mu, v = q.v ∧ q.U ∧ inI q.l ∧ inI q.q1 ∧ inI q.q2 ∧ inI q.q3 ∧ inI q.q4 := by
  obtain ⟨cs, rfl, hsz⟩ := okWide_struct Tryz.underlying30 hval
  rw [cellsMut] at hsz
  obtain ⟨fuel, hf⟩ := h
  obtain ⟨q, ⟨k0, k1, k2, k3, k4, k5, k6, k7, k8, k9, k10, k11, k12⟩, hU⟩ := mut_cells Tryz.underlying30 ⟨rfl, rfl⟩ ⟨rfl, rfl⟩ ⟨rfl, rfl⟩ ⟨rfl, rfl⟩ ⟨rfl, rfl⟩ ⟨rfl, rfl⟩ ⟨rfl, rfl⟩ ⟨rfl, rfl⟩ ⟨rfl, rfl⟩ ⟨rfl, rfl⟩ hf
  refine ⟨q, ?_, hU⟩
  have hcs : cs = #[.int .i64 q.l, .int .i64 q.q1, .int .i64 q.q2, .int .i64 q.q3, .int .i64 q.q4, .int .u64 q.m1, .int .u64 q.m2, .int .u64 q.m3, .int .u64 q.m4, .int .u64 q.m5, .int .u64 q.p, .int .i64 q.bk, .int .i64 q.rt] := by
    obtain ⟨cl⟩ := cs
    match cl, hsz with
    | [a0, a1, a2, a3, a4, a5, a6, a7, a8, a9, a10, a11, a12], _ =>
      simp [Value.cells] at k0 k1 k2 k3 k4 k5 k6 k7 k8 k9 k10 k11 k12
      rw [k0, k1, k2, k3, k4, k5, k6, k7, k8, k9, k10, k11, k12]
  rw [hcs]
end Go.Proofs.YtbpkdihonemogaaGreatDoor
