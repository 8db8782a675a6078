/- Laid together: LispFrameH, HoldsB, LispHolds. -/
import Derived.Test.YtbpkdihonemogaaGreatDoorM1
import Derived.Test.YtbpkdihonemogaaGreatDoorM2
import Derived.Test.YtbpkdihonemogaaGreatDoorHoldsA
import Derived.Stop.LaidErr
import Derived.Carry
import Derived.JoinedOf
import Derived.SizedLaws
import Derived.Test.YtbpkdihonemogaaGreatDoorM9
/- What the listed variable holds, for the cards of this stage; a slice of words, and how far a mutator is, as arguments that were read. -/
namespace Go.Proofs.YtbpkdihonemogaaGreatDoor
open Go Go.ChangeShapes Go.WideShapes Go.ChangeAt Go.WideMaps Go.WideElems Go.RowKit
set_option maxRecDepth 100000
/-- The list of the listed variables, as the rows have it. -/
abbrev listed : List (String × DataW Unit) := Rows.lispHoldsRow.laid
theorem spans_of {W : World} (h : laidMetH Tryz.prog listed W) : SpansAt W := by
  rw [MakeChecks.laidMetH_plain _ _ _ (by kernel_rfl)] at h
  have h1 : laidMet Tryz.prog (("mudlark/config.spans", Rows.laid_mudlark_config_spans) :: []) W := h
  exact spansAt h1
theorem laidOut : laidOutB Tryz.prog = true := by kernel_rfl
theorem cellsWord : Tryz.prog.cellsOf 28 = 1 := by kernel_rfl
theorem u64_of {x : Int} (h : (Lit.int .u64 x).wf = true) : U64 x := by have := bounds_u64 h; unfold U64; omega
theorem u64_nat {n : Int} (h : (Lit.int .u64 n).wf = true) : ∃ m : Nat, n = m ∧ m < 18446744073709551616 := by
  have hb := bounds_u64 h
  exact ⟨n.toNat, by omega, by omega⟩
theorem u8_nat {n : Int} (h : (Lit.int .u8 n).wf = true) : ∃ m : Nat, n = m ∧ m < 256 := by
  have hb := bounds_u8 h
  exact ⟨n.toNat, by omega, by omega⟩
theorem inI_of {x : Int} (h : (Lit.int .i64 x).wf = true) : inI x := by have := bounds_i64 h; unfold inI; omega
theorem given_of {H : Type} {enc : TypeId × Value → H} {W : World} {base b0 : Nat} {r : Reach} {v : Value} {d : DataW H} {p : List MemPlace}
    (hval : Value.okWide Tryz.prog W r b0 24 v) (h : DataW.Trod enc Tryz.prog W base (fun _ => true) true 24 v d p) :
    ∃ a n cap f, v = .slice a n cap ∧ Given W a n cap f := by
  obtain ⟨a0, len0, cap0, rfl⟩ := okWide_slice Tryz.underlying24 hval
  obtain ⟨fuel, hf⟩ := h
  rcases open_ints Tryz.underlying24 Tryz.underlying28 cellsWord hf with ⟨hcs, _⟩ | ⟨x, l, c, zs, hcs, _, hl, hm, hz, _, hcell, hwz⟩
  · simp [Value.cells] at hcs
    obtain ⟨rfl, rfl, rfl⟩ := hcs
    exact ⟨none, 0, 0, fun _ => 0, rfl, by omega, .inl rfl, fun _ => ⟨Int.le_refl 0, show (0 : Int) < 18446744073709551616 by decide⟩, fun _ => ⟨rfl, rfl⟩⟩
  · simp [Value.cells] at hcs
    obtain ⟨rfl, rfl, rfl⟩ := hcs
    refine ⟨some x, len0, cap0, fun j => zs[j]?.getD 0, rfl, by unfold maxLen at hm; omega, ?_, fun j => (by have := range_u64 hwz j; unfold U64; omega : U64 (zs[j]?.getD 0)), fun e => by cases e⟩
    have hz' : cap0 = zs.length := by simpa using hz.symm
    by_cases h0 : len0 = 0
    · exact .inl h0
    · obtain ⟨b, off, rfl, hc'⟩ := ints_at hcell (show 0 < zs.length by omega)
      exact .inr ⟨b, off, rfl, lt_of_cell (hc' 0 (by omega)), fun j hj => by rw [hc' j (by omega)]; simp [List.getD]⟩
theorem cellsOp : Tryz.prog.cellsOf 26 = 4 := by kernel_rfl
theorem cellsMut : Tryz.prog.cellsOf 30 = 13 := by kernel_rfl
theorem op_cells {H : Type} {enc : TypeId × Value → H} {P : Program} {w : World} {bs : Nat} {sp : Nat → Bool} {held : Bool} {fuel : Nat} {t ti : TypeId} {f0 f1 f2 f3 : Field} {cs : List Value} {z : DataW H × List MemPlace}
    (ht : P.underlying t = some (.struct #[f0, f1, f2, f3])) (e0 : f0.type = ti ∧ f0.offset = 0) (e1 : f1.type = ti ∧ f1.offset = 1) (e2 : f2.type = ti ∧ f2.offset = 2) (e3 : f3.type = ti ∧ f3.offset = 3)
    (hi : P.underlying ti = some (.int .i64)) (cI : P.cellsOf ti = 1) (h : DataW.trod enc P w bs sp held fuel t cs = some z) :
    ∃ a b c d : Int, cs[0]? = some (.int .i64 a) ∧ cs[1]? = some (.int .i64 b) ∧ cs[2]? = some (.int .i64 c) ∧ cs[3]? = some (.int .i64 d) ∧ inI a ∧ inI b ∧ inI c ∧ inI d := by
  obtain ⟨xs, n, _, _, _, hl, hf⟩ := DataW.trod_struct ht h
  have g0 := hf 0 f0 rfl
  have g1 := hf 1 f1 rfl
  have g2 := hf 2 f2 rfl
  have g3 := hf 3 f3 rfl
  simp only [e0.1, e0.2, e1.1, e1.2, e2.1, e2.2, e3.1, e3.2, cI] at g0 g1 g2 g3
  have hl' : xs.length = 4 := hl
  match xs, hl' with
  | [y0, y1, y2, y3], _ =>
    obtain ⟨a, c0, _, w0⟩ := DataW.trod_int hi (g0.trans rfl)
    obtain ⟨b, c1, _, w1⟩ := DataW.trod_int hi (g1.trans rfl)
    obtain ⟨c, c2, _, w2⟩ := DataW.trod_int hi (g2.trans rfl)
    obtain ⟨d, c3, _, w3⟩ := DataW.trod_int hi (g3.trans rfl)
    have k0 := congrArg (·[0]?) c0
    have k1 := congrArg (·[0]?) c1
    have k2 := congrArg (·[0]?) c2
    have k3 := congrArg (·[0]?) c3
    simp [List.getElem?_drop] at k0 k1 k2 k3
    exact ⟨a, b, c, d, k0, k1, k2, k3, inI_of w0, inI_of w1, inI_of w2, inI_of w3⟩
theorem mut_cells {H : Type} {enc : TypeId × Value → H} {w : World} {bs : Nat} {sp : Nat → Bool} {held : Bool} {fuel : Nat} {f0 f1 f2 f3 f4 f5 f6 f7 f8 f9 : Field} {cs : List Value} {z : DataW H × List MemPlace}
    (ht : Tryz.prog.underlying 30 = some (.struct #[f0, f1, f2, f3, f4, f5, f6, f7, f8, f9])) (e0 : f0.type = 3 ∧ f0.offset = 0) (e1 : f1.type = 26 ∧ f1.offset = 1) (e2 : f2.type = 28 ∧ f2.offset = 5) (e3 : f3.type = 28 ∧ f3.offset = 6) (e4 : f4.type = 28 ∧ f4.offset = 7) (e5 : f5.type = 28 ∧ f5.offset = 8) (e6 : f6.type = 28 ∧ f6.offset = 9) (e7 : f7.type = 28 ∧ f7.offset = 10) (e8 : f8.type = 3 ∧ f8.offset = 11) (e9 : f9.type = 3 ∧ f9.offset = 12)
    (h : DataW.trod enc Tryz.prog w bs sp held fuel 30 cs = some z) :
    ∃ q : Mu, (cs[0]? = some (.int .i64 q.l) ∧ cs[1]? = some (.int .i64 q.q1) ∧ cs[2]? = some (.int .i64 q.q2) ∧ cs[3]? = some (.int .i64 q.q3) ∧ cs[4]? = some (.int .i64 q.q4) ∧ cs[5]? = some (.int .u64 q.m1) ∧ cs[6]? = some (.int .u64 q.m2) ∧ cs[7]? = some (.int .u64 q.m3) ∧ cs[8]? = some (.int .u64 q.m4) ∧ cs[9]? = some (.int .u64 q.m5) ∧ cs[10]? = some (.int .u64 q.p) ∧ cs[11]? = some (.int .i64 q.bk) ∧ cs[12]? = some (.int .i64 q.rt)) ∧ q.U ∧ inI q.l ∧ inI q.q1 ∧ inI q.q2 ∧ inI q.q3 ∧ inI q.q4 := by
  obtain ⟨xs, n, _, _, _, hl, hf⟩ := DataW.trod_struct ht h
  have g0 := hf 0 f0 rfl
  have g1 := hf 1 f1 rfl
  have g2 := hf 2 f2 rfl
  have g3 := hf 3 f3 rfl
  have g4 := hf 4 f4 rfl
  have g5 := hf 5 f5 rfl
  have g6 := hf 6 f6 rfl
  have g7 := hf 7 f7 rfl
  have g8 := hf 8 f8 rfl
  have g9 := hf 9 f9 rfl
  simp only [e0.1, e0.2, e1.1, e1.2, e2.1, e2.2, e3.1, e3.2, e4.1, e4.2, e5.1, e5.2, e6.1, e6.2, e7.1, e7.2, e8.1, e8.2, e9.1, e9.2, cellsInt, cellsOp, cellsWord] at g0 g1 g2 g3 g4 g5 g6 g7 g8 g9
  have hl' : xs.length = 10 := hl
  match xs, hl' with
  | [y0, y1, y2, y3, y4, y5, y6, y7, y8, y9], _ =>
    obtain ⟨l, c0, _, w0⟩ := DataW.trod_int Tryz.underlying3 (g0.trans rfl)
    obtain ⟨q1, q2, q3, q4, k1, k2, k3, k4, i1, i2, i3, i4⟩ := op_cells Tryz.underlying26 ⟨rfl, rfl⟩ ⟨rfl, rfl⟩ ⟨rfl, rfl⟩ ⟨rfl, rfl⟩ Tryz.underlying3 cellsInt (g1.trans rfl)
    obtain ⟨m1, c5, _, w2⟩ := DataW.trod_int Tryz.underlying28 (g2.trans rfl)
    obtain ⟨m2, c6, _, w3⟩ := DataW.trod_int Tryz.underlying28 (g3.trans rfl)
    obtain ⟨m3, c7, _, w4⟩ := DataW.trod_int Tryz.underlying28 (g4.trans rfl)
    obtain ⟨m4, c8, _, w5⟩ := DataW.trod_int Tryz.underlying28 (g5.trans rfl)
    obtain ⟨m5, c9, _, w6⟩ := DataW.trod_int Tryz.underlying28 (g6.trans rfl)
    obtain ⟨p, c10, _, w7⟩ := DataW.trod_int Tryz.underlying28 (g7.trans rfl)
    obtain ⟨bk, c11, _, _⟩ := DataW.trod_int Tryz.underlying3 (g8.trans rfl)
    obtain ⟨rt, c12, _, _⟩ := DataW.trod_int Tryz.underlying3 (g9.trans rfl)
    have k0 := congrArg (·[0]?) c0
    have k5 := congrArg (·[0]?) c5
    have k6 := congrArg (·[0]?) c6
    have k7 := congrArg (·[0]?) c7
    have k8 := congrArg (·[0]?) c8
    have k9 := congrArg (·[0]?) c9
    have k10 := congrArg (·[0]?) c10
    have k11 := congrArg (·[0]?) c11
    have k12 := congrArg (·[0]?) c12
    simp [List.getElem?_drop] at k0 k1 k2 k3 k4 k5 k6 k7 k8 k9 k10 k11 k12
    exact ⟨⟨l, q1, q2, q3, q4, m1, m2, m3, m4, m5, p, bk, rt⟩, ⟨k0, k1, k2, k3, k4, k5, k6, k7, k8, k9, k10, k11, k12⟩, ⟨u64_of w2, u64_of w3, u64_of w4, u64_of w5, u64_of w6, u64_of w7⟩, inI_of w0, i1, i2, i3, i4⟩
theorem mut_of {H : Type} {enc : TypeId × Value → H} {W : World} {base b0 : Nat} {r : Reach} {v : Value} {d : DataW H} {p : List MemPlace}
    (hval : Value.okWide Tryz.prog W r b0 30 v) (h : DataW.Trod enc Tryz.prog W base (fun _ => true) true 30 v d p) : ∃ q : Mu, v = q.v ∧ q.U ∧ inI q.l ∧ inI q.q1 ∧ inI q.q2 ∧ inI q.q3 ∧ inI q.q4 := by
  obtain ⟨cs, rfl, hsz⟩ := okWide_struct Tryz.underlying30 hval
  rw [cellsMut] at hsz
  obtain ⟨fuel, hf⟩ := h
  obtain ⟨q, ⟨k0, k1, k2, k3, k4, k5, k6, k7, k8, k9, k10, k11, k12⟩, hU⟩ := mut_cells Tryz.underlying30 ⟨rfl, rfl⟩ ⟨rfl, rfl⟩ ⟨rfl, rfl⟩ ⟨rfl, rfl⟩ ⟨rfl, rfl⟩ ⟨rfl, rfl⟩ ⟨rfl, rfl⟩ ⟨rfl, rfl⟩ ⟨rfl, rfl⟩ ⟨rfl, rfl⟩ hf
  refine ⟨q, ?_, hU⟩
  have hcs : cs = #[.int .i64 q.l, .int .i64 q.q1, .int .i64 q.q2, .int .i64 q.q3, .int .i64 q.q4, .int .u64 q.m1, .int .u64 q.m2, .int .u64 q.m3, .int .u64 q.m4, .int .u64 q.m5, .int .u64 q.p, .int .i64 q.bk, .int .i64 q.rt] := by
    obtain ⟨cl⟩ := cs
    match cl, hsz with
    | [a0, a1, a2, a3, a4, a5, a6, a7, a8, a9, a10, a11, a12], _ =>
      simp [Value.cells] at k0 k1 k2 k3 k4 k5 k6 k7 k8 k9 k10 k11 k12
      rw [k0, k1, k2, k3, k4, k5, k6, k7, k8, k9, k10, k11, k12]
  rw [hcs]
/-- Mutators that were handed in. -/
def GivenMuts (W : World) (a : Option Addr) (n : Nat) (g : Nat → Mu) : Prop := n ≤ 9223372036854775807 ∧ MutsIn W a n g
theorem muts_of {H : Type} {enc : TypeId × Value → H} {W : World} {base b0 : Nat} {r : Reach} {v : Value} {d : DataW H} {p : List MemPlace}
    (hval : Value.okWide Tryz.prog W r b0 22 v) (h : DataW.Trod enc Tryz.prog W base (fun _ => true) true 22 v d p) :
    ∃ a n cap g, v = .slice a n cap ∧ GivenMuts W a n g := by
  obtain ⟨a0, len0, cap0, rfl⟩ := okWide_slice Tryz.underlying22 hval
  obtain ⟨fuel, hf⟩ := h
  rcases DataW.trod_slice Tryz.underlying22 hf with ⟨hcs, _⟩ | ⟨x, l, c, elems, rest, n, _, hcs, _, _, hl, hm, hlen, hel, _⟩
  · simp [Value.cells] at hcs
    obtain ⟨rfl, rfl, rfl⟩ := hcs
    exact ⟨none, 0, 0, fun _ => ⟨0, 0, 0, 0, 0, 0, 0, 0, 0, 0, 0, 0, 0⟩, rfl, by omega, .inl rfl⟩
  · simp [Value.cells] at hcs
    obtain ⟨rfl, rfl, rfl⟩ := hcs
    have key : ∀ j, j < len0 → ∃ q : Mu, ∀ z v, z < 13 → ([.int .i64 q.l, .int .i64 q.q1, .int .i64 q.q2, .int .i64 q.q3, .int .i64 q.q4, .int .u64 q.m1, .int .u64 q.m2, .int .u64 q.m3, .int .u64 q.m4, .int .u64 q.m5, .int .u64 q.p, .int .i64 q.bk, .int .i64 q.rt] : List Value)[z]? = some v → W.cell? ((x.add (j * 13)).add z) = some v := fun j hj => by
      have he := hel j hj
      rw [List.getElem?_eq_getElem (by omega)] at he
      obtain ⟨cs, hcs, ht⟩ := Option.bind_eq_some_iff.1 he
      rw [cellsMut] at hcs
      obtain ⟨_, _, hc⟩ := World.cells?_some hcs
      obtain ⟨q, ⟨q0, q1, q2, q3, q4, q5, q6, q7, q8, q9, q10, q11, q12⟩, _⟩ := mut_cells Tryz.underlying30 ⟨rfl, rfl⟩ ⟨rfl, rfl⟩ ⟨rfl, rfl⟩ ⟨rfl, rfl⟩ ⟨rfl, rfl⟩ ⟨rfl, rfl⟩ ⟨rfl, rfl⟩ ⟨rfl, rfl⟩ ⟨rfl, rfl⟩ ⟨rfl, rfl⟩ ht
      refine ⟨q, fun z v hz hv => (hc z hz).trans ?_⟩
      match z, hv with
      | 0, hv => rw [q0, ← hv]; rfl
      | 1, hv => rw [q1, ← hv]; rfl
      | 2, hv => rw [q2, ← hv]; rfl
      | 3, hv => rw [q3, ← hv]; rfl
      | 4, hv => rw [q4, ← hv]; rfl
      | 5, hv => rw [q5, ← hv]; rfl
      | 6, hv => rw [q6, ← hv]; rfl
      | 7, hv => rw [q7, ← hv]; rfl
      | 8, hv => rw [q8, ← hv]; rfl
      | 9, hv => rw [q9, ← hv]; rfl
      | 10, hv => rw [q10, ← hv]; rfl
      | 11, hv => rw [q11, ← hv]; rfl
      | 12, hv => rw [q12, ← hv]; rfl
    have hq : ∃ g : Nat → Mu, ∀ j, j < len0 → ∀ z v, z < 13 → ([.int .i64 (g j).l, .int .i64 (g j).q1, .int .i64 (g j).q2, .int .i64 (g j).q3, .int .i64 (g j).q4, .int .u64 (g j).m1, .int .u64 (g j).m2, .int .u64 (g j).m3, .int .u64 (g j).m4, .int .u64 (g j).m5, .int .u64 (g j).p, .int .i64 (g j).bk, .int .i64 (g j).rt] : List Value)[z]? = some v → W.cell? ((x.add (j * 13)).add z) = some v := by
      refine ⟨fun j => if hj : j < len0 then Classical.choose (key j hj) else ⟨0, 0, 0, 0, 0, 0, 0, 0, 0, 0, 0, 0, 0⟩, fun j hj => ?_⟩
      simp only [hj, dif_pos]
      exact Classical.choose_spec (key j hj)
    obtain ⟨g, hg⟩ := hq
    refine ⟨some x, len0, cap0, g, rfl, by unfold maxLen at hm; omega, ?_⟩
    by_cases h0 : len0 = 0
    · exact .inl h0
    · obtain ⟨b, off, spot⟩ := x
      have hspot : spot = none := by
        have := World.cell?_spot ((hg 0 (by omega)) 0 _ (by omega) rfl)
        simpa [Addr.add] using this
      subst hspot
      have hc : ∀ j, j < len0 → ∀ z v, z < 13 → ([.int .i64 (g j).l, .int .i64 (g j).q1, .int .i64 (g j).q2, .int .i64 (g j).q3, .int .i64 (g j).q4, .int .u64 (g j).m1, .int .u64 (g j).m2, .int .u64 (g j).m3, .int .u64 (g j).m4, .int .u64 (g j).m5, .int .u64 (g j).p, .int .i64 (g j).bk, .int .i64 (g j).rt] : List Value)[z]? = some v → W.cell? ⟨b, off + j * 13 + z, none⟩ = some v := fun j hj z v hz hv => by
        have := hg j hj z v hz hv
        rw [Addr.add_lit, Addr.add_lit] at this
        exact this
      exact .inr ⟨b, off, rfl, lt_of_cell (hc 0 (by omega) 0 _ (by omega) rfl), fun j hj => ⟨hc j hj 0 _ (by omega) rfl, hc j hj 1 _ (by omega) rfl, hc j hj 2 _ (by omega) rfl, hc j hj 3 _ (by omega) rfl, hc j hj 4 _ (by omega) rfl, hc j hj 5 _ (by omega) rfl, hc j hj 6 _ (by omega) rfl, hc j hj 7 _ (by omega) rfl, hc j hj 8 _ (by omega) rfl, hc j hj 9 _ (by omega) rfl, hc j hj 10 _ (by omega) rfl, hc j hj 11 _ (by omega) rfl, hc j hj 12 _ (by omega) rfl⟩⟩
end Go.Proofs.YtbpkdihonemogaaGreatDoor
/- What several mutators have; the register that is still to come. -/
namespace Go.Proofs.YtbpkdihonemogaaGreatDoor
open Go Go.RowKit
set_option maxRecDepth 100000
attribute [local go_sem ↓] Go.wp_at_zero Go.wp_at_succ

set_option maxHeartbeats 6400000 in
theorem held_c (g : Nat → Mu) (n : Nat) (hn : n ≤ 20000) (va : Option Addr) (c0 : Nat) (w : World) (hM : MutsIn w va n g) :
    Calls Tryz.prog 13 #[.slice va n c0] w fun e w' => ∃ a cap, e = .returned (.slice a (holds g n).length cap) ∧ WordsAt w' a (holds g n).length (fun j => (holds g n).getD j 0) ∧ Below w.heap.size w w' := by
  obtain ⟨i50, hi50, hz0, hz1, hz2⟩ := info_parts infoWord
  have HM := Lib.hid hM
  have HF : Hid (HRow w w (.slice none 0 0) (holds g 0)) := Lib.hid ⟨Below.refl _ _, World.ownsRow_nil _ _ _ _⟩
  clear hM
  go_enter Tryz.func13, Tryz.ntmps13
  go_wp2_with fail
  go_loopw [3, 12] (fun v vi wr => ∃ k : Nat, vi = .int .i64 k ∧ k ≤ n ∧ Hid (HRow w wr v (holds g k))) (fun _ vi _ => n - (intOf vi).toNat)
  case atStart => exact ⟨0, rfl, by omega, HF⟩
  case round =>
    clear HF
    obtain ⟨k, rfl, hk, HQ⟩ := hrel
    by_cases hlt : k < n
    · have hk0 : (0 : Int) ≤ (k : Int) := by omega
      have hkn : (k : Int) < (n : Int) := by omega
      have hLn : (holds g k).length ≤ k := holds_length g k
      obtain ⟨b, off, rfl, _, hq⟩ : ∃ b off, va = some ⟨b, off, none⟩ ∧ b < wr.heap.size ∧ ∀ j, j < n → _ := by
        rcases (HM.out.below HQ.out.old) with h | h
        · omega
        · exact h
      obtain ⟨q0, q1, q2, q3, q4, q5, q6, q7, q8, q9, q10, q11, q12⟩ := hq k hlt
      have HE : Hid (holds g (k + 1) = holds g k ++ hold (g k)) := Lib.hid (holds_succ g k)
      clear hq
      generalize g k = y at *
      have HO : Hid (∀ j, u3.ownBlock = some j → j < wr.heap.size) := Lib.hid (fun j e => (HQ.out.row.lt j e).2)
      have HX : Hid (MuAt (wr.alloc (.cells #[.int .i64 y.l, .int .i64 y.q1, .int .i64 y.q2, .int .i64 y.q3, .int .i64 y.q4, .int .u64 y.m1, .int .u64 y.m2, .int .u64 y.m3, .int .u64 y.m4, .int .u64 y.m5, .int .u64 y.p, .int .i64 y.bk, .int .i64 y.rt] 30)) wr.heap.size y) := Lib.hid (Mut13.new wr y.l y.p y.bk y.q1 y.q2 y.q3 y.q4 y.m1 y.m2 y.m3 y.m4 y.m5 y.rt)
      have HQ1 := Lib.hid (HQ.out.below (below_new wr (.cells #[.int .i64 y.l, .int .i64 y.q1, .int .i64 y.q2, .int .i64 y.q3, .int .i64 y.q4, .int .u64 y.m1, .int .u64 y.m2, .int .u64 y.m3, .int .u64 y.m4, .int .u64 y.m5, .int .u64 y.p, .int .i64 y.bk, .int .i64 y.rt] 30)))
      generalize holds g k = L at *
      obtain ⟨a0, a1, a2, a3, a4, a5, a6, a7, a8, a9, a10, a11, a12, af⟩ := HX.out.cells
      by_cases h15' : y.l = 15
      · have h15 := Lib.hid h15'; clear h15'
        go_wp2_with fail
        generalize wr.heap.size = X at *
        clear q0 q1 q2 q3 q4 q5 q6 q7 q8 q9 q10 q11 q12
        refine (temp_yes y h15.out _).mono ?_
        rintro e V1 ⟨rfl, hb⟩
        have HX1 := Lib.hid (HX.out.below hb); have HQ2 := Lib.hid (HQ1.out.below hb)
        clear hb HX HQ1 a0 a1 a2 a3 a4 a5 a6 a7 a8 a9 a10 a11 a12 af
        obtain ⟨a0, a1, a2, a3, a4, a5, a6, a7, a8, a9, a10, a11, a12, af⟩ := HX1.out.cells
        go_wp2_with (at_builtin; go_loud (refine wpList_append_lies _ (by rfl) _ _ _ (by rfl) (w.heap.size) 28 i50 _ 1 8 Tryz.underlying24 hi50 hz0 hz1 hz2 rfl (by omega) u3 L.length _ (by rfl) (HQ2.out.row.alloc _) ⟨V1.heap.size, 0, none⟩ 1 1 [.int .u64 y.m2] (by rfl) (by rfl) (World.news_of_block (cs := #[.int .u64 y.m2]) (t := 28) (fr := (0, 0)) (heap_alloc_new V1 _)) (by simp [Value.oneCell']) (by omega) (by unfold maxLen; omega) (by omega) (by have := HQ2.out.old.size; simp; omega) (V1.heap.size + 1) (by simp) ?_; intro gg cap w2 hown1 hgrow hat hlt2; have HQ3 := Lib.hid (HQ2.out.add _ hgrow hown1); have HX2 := Lib.hid ((HX1.out.below (below_new V1 _)).other (hgrow.block _ (by have := HX1.out.lt; simp; omega) (fun e => by have := HO.out _ e.symm; omega))); obtain ⟨b0, b1, b2, b3, b4, b5, b6, b7, b8, b9, b10, b11, b12, bf⟩ := HX2.out.cells))
        clear hown1 hgrow hat hlt2 HQ HQ2 HX1 HO a0 a1 a2 a3 a4 a5 a6 a7 a8 a9 a10 a11 a12 af
        refine (fresh_no y (not_both h15.out) _).mono ?_
        rintro e V3 ⟨rfl, hb⟩
        have HQ4 := Lib.hid (HQ3.out.below hb)
        clear hb HQ3 HX2 b0 b1 b2 b3 b4 b5 b6 b7 b8 b9 b10 b11 b12 bf
        go_wp2_with fail
        go_roundw
        case rel => exact ⟨k + 1, by go_num, by omega, Lib.hid (by rw [HE.out]; unfold hold; rw [if_pos h15.out]; exact HQ4.out)⟩
        case measure => simp [intOf]; omega
      · have h15 := Lib.hid h15'; clear h15'
        by_cases hf' : freshP y
        · have hf := Lib.hid hf'; clear hf'
          go_wp2_with fail
          generalize wr.heap.size = X at *
          clear q0 q1 q2 q3 q4 q5 q6 q7 q8 q9 q10 q11 q12
          refine (temp_no y h15.out _).mono ?_
          rintro e V1 ⟨rfl, hb⟩
          have HX1 := Lib.hid (HX.out.below hb); have HQ2 := Lib.hid (HQ1.out.below hb)
          clear hb HX HQ1 a0 a1 a2 a3 a4 a5 a6 a7 a8 a9 a10 a11 a12 af
          obtain ⟨a0, a1, a2, a3, a4, a5, a6, a7, a8, a9, a10, a11, a12, af⟩ := HX1.out.cells
          go_wp2_with fail
          refine (fresh_yes y hf.out _).mono ?_
          rintro e V2 ⟨rfl, hb⟩
          have HX2 := Lib.hid (HX1.out.below hb); have HQ3 := Lib.hid (HQ2.out.below hb)
          clear hb HX1 HQ2 a0 a1 a2 a3 a4 a5 a6 a7 a8 a9 a10 a11 a12 af
          obtain ⟨a0, a1, a2, a3, a4, a5, a6, a7, a8, a9, a10, a11, a12, af⟩ := HX2.out.cells
          go_wp2_with (at_builtin; go_loud (refine wpList_append_lies _ (by rfl) _ _ _ (by rfl) (w.heap.size) 28 i50 _ 1 8 Tryz.underlying24 hi50 hz0 hz1 hz2 rfl (by omega) u3 L.length _ (by rfl) (HQ3.out.row.alloc _) ⟨V2.heap.size, 0, none⟩ 1 1 [.int .u64 y.m3] (by rfl) (by rfl) (World.news_of_block (cs := #[.int .u64 y.m3]) (t := 28) (fr := (0, 0)) (heap_alloc_new V2 _)) (by simp [Value.oneCell']) (by omega) (by unfold maxLen; omega) (by omega) (by have := HQ3.out.old.size; simp; omega) (V2.heap.size + 1) (by simp) ?_; intro gg cap w2 hown1 hgrow hat hlt2; have HQ4 := Lib.hid (HQ3.out.add _ hgrow hown1)))
          clear hown1 hgrow hat hlt2 HQ HQ3 HX2 HO a0 a1 a2 a3 a4 a5 a6 a7 a8 a9 a10 a11 a12 af
          go_roundw
          case rel => exact ⟨k + 1, by go_num, by omega, Lib.hid (by rw [HE.out]; unfold hold; rw [if_neg h15.out, if_pos hf.out]; exact HQ4.out)⟩
          case measure => simp [intOf]; omega
        · have hf := Lib.hid hf'; clear hf'
          go_wp2_with fail
          generalize wr.heap.size = X at *
          clear q0 q1 q2 q3 q4 q5 q6 q7 q8 q9 q10 q11 q12
          refine (temp_no y h15.out _).mono ?_
          rintro e V1 ⟨rfl, hb⟩
          have HX1 := Lib.hid (HX.out.below hb); have HQ2 := Lib.hid (HQ1.out.below hb)
          clear hb HX HQ1 a0 a1 a2 a3 a4 a5 a6 a7 a8 a9 a10 a11 a12 af
          obtain ⟨a0, a1, a2, a3, a4, a5, a6, a7, a8, a9, a10, a11, a12, af⟩ := HX1.out.cells
          go_wp2_with fail
          refine (fresh_no y hf.out _).mono ?_
          rintro e V2 ⟨rfl, hb⟩
          have HX2 := Lib.hid (HX1.out.below hb); have HQ3 := Lib.hid (HQ2.out.below hb)
          clear hb HX1 HQ2 a0 a1 a2 a3 a4 a5 a6 a7 a8 a9 a10 a11 a12 af
          obtain ⟨a0, a1, a2, a3, a4, a5, a6, a7, a8, a9, a10, a11, a12, af⟩ := HX2.out.cells
          clear HQ HX2 HO a0 a1 a2 a3 a4 a5 a6 a7 a8 a9 a10 a11 a12 af
          go_wp2_with fail
          go_roundw
          case rel => exact ⟨k + 1, by go_num, by omega, Lib.hid (by rw [HE.out]; unfold hold; rw [if_neg h15.out, if_neg hf.out, List.append_nil]; exact HQ3.out)⟩
          case measure => simp [intOf]; omega
    · obtain rfl : k = n := by omega
      obtain ⟨a, cap, rfl, hw⟩ := HQ.out.words
      have HW := Lib.hid hw; have HB := Lib.hid HQ.out.old
      clear hw HQ
      go_wp2_with fail
      go_ret
      exact ⟨a, cap, rfl, HW.out, HB.out⟩
set_option maxHeartbeats 1600000 in
theorem late_c (x : Mu) (w : World) :
    Calls Tryz.prog 11 #[x.v] w fun e w' => e = .returned (.tuple #[.int .i64 (if hold x = [] then 0 else x.q2), .bool (!decide (hold x = []))]) ∧ Below w.heap.size w w' := by
  have HM := Lib.hid (Mut13.new w x.l x.p x.bk x.q1 x.q2 x.q3 x.q4 x.m1 x.m2 x.m3 x.m4 x.m5 x.rt)
  have hb := below_new w (.cells #[.int .i64 x.l, .int .i64 x.q1, .int .i64 x.q2, .int .i64 x.q3, .int .i64 x.q4, .int .u64 x.m1, .int .u64 x.m2, .int .u64 x.m3, .int .u64 x.m4, .int .u64 x.m5, .int .u64 x.p, .int .i64 x.bk, .int .i64 x.rt] 30)
  have HI : Hid (MutsIn ((w.alloc (.cells #[.int .i64 x.l, .int .i64 x.q1, .int .i64 x.q2, .int .i64 x.q3, .int .i64 x.q4, .int .u64 x.m1, .int .u64 x.m2, .int .u64 x.m3, .int .u64 x.m4, .int .u64 x.m5, .int .u64 x.p, .int .i64 x.bk, .int .i64 x.rt] 30)).alloc (.cells #[.int .i64 x.l, .int .i64 x.q1, .int .i64 x.q2, .int .i64 x.q3, .int .i64 x.q4, .int .u64 x.m1, .int .u64 x.m2, .int .u64 x.m3, .int .u64 x.m4, .int .u64 x.m5, .int .u64 x.p, .int .i64 x.bk, .int .i64 x.rt] 30)) (some ⟨w.heap.size + 1, 0, none⟩) 1 (fun _ => x)) := Lib.hid (by have := MutsIn.one (w.alloc (.cells #[.int .i64 x.l, .int .i64 x.q1, .int .i64 x.q2, .int .i64 x.q3, .int .i64 x.q4, .int .u64 x.m1, .int .u64 x.m2, .int .u64 x.m3, .int .u64 x.m4, .int .u64 x.m5, .int .u64 x.p, .int .i64 x.bk, .int .i64 x.rt] 30)) x; simpa using this)
  have HB := Lib.hid (below_on hb (.cells #[.int .i64 x.l, .int .i64 x.q1, .int .i64 x.q2, .int .i64 x.q3, .int .i64 x.q4, .int .u64 x.m1, .int .u64 x.m2, .int .u64 x.m3, .int .u64 x.m4, .int .u64 x.m5, .int .u64 x.p, .int .i64 x.bk, .int .i64 x.rt] 30))
  have HM2 : Hid (MuAt ((w.alloc (.cells #[.int .i64 x.l, .int .i64 x.q1, .int .i64 x.q2, .int .i64 x.q3, .int .i64 x.q4, .int .u64 x.m1, .int .u64 x.m2, .int .u64 x.m3, .int .u64 x.m4, .int .u64 x.m5, .int .u64 x.p, .int .i64 x.bk, .int .i64 x.rt] 30)).alloc (.cells #[.int .i64 x.l, .int .i64 x.q1, .int .i64 x.q2, .int .i64 x.q3, .int .i64 x.q4, .int .u64 x.m1, .int .u64 x.m2, .int .u64 x.m3, .int .u64 x.m4, .int .u64 x.m5, .int .u64 x.p, .int .i64 x.bk, .int .i64 x.rt] 30)) w.heap.size x) := Lib.hid (HM.out.below (below_new _ _))
  have HH := Lib.hid (fun W (h : MutsIn W (some ⟨w.heap.size + 1, 0, none⟩) 1 (fun _ => x)) => held_c (fun _ => x) 1 (by omega) (some ⟨w.heap.size + 1, 0, none⟩) 1 W h)
  have hL : holds (fun _ => x) 1 = hold x := by rw [holds_succ]; simp [holds]
  rw [hL] at HH
  clear hL hb
  by_cases h0 : hold x = []
  · rw [if_pos h0, decide_eq_true h0]
    have hn : (hold x).length = 0 := by rw [h0]; rfl
    generalize hold x = L at *
    rw [hn] at HH
    clear h0 hn
    obtain ⟨a0, a1, a2, a3, a4, a5, a6, a7, a8, a9, a10, a11, a12, af⟩ := HM.out.cells
    go_enter Tryz.func11, Tryz.ntmps11
    go_wp2_with fail
    refine (HH.out _ HI.out).mono ?_
    rintro e V ⟨a, cap, rfl, _, hb⟩
    have HB2 := Lib.hid (belowOn HB.out hb)
    have HX := Lib.hid (HM2.out.below hb)
    clear hb HI HB HM HM2 HH a0 a1 a2 a3 a4 a5 a6 a7 a8 a9 a10 a11 a12 af
    obtain ⟨a0, a1, a2, a3, a4, a5, a6, a7, a8, a9, a10, a11, a12, af⟩ := HX.out.cells
    go_wp2_with fail
    refine bodyPost_ret (v := .tuple #[.int .i64 0, .bool false]) (by simp [results, Tryz.f11, go_sem]) rfl ?_
    exact ⟨rfl, HB2.out⟩
  · rw [if_neg h0, decide_eq_false h0]
    have hn : (hold x).length = 1 := by have := hold_length x; have : (hold x).length ≠ 0 := fun e => h0 (List.length_eq_zero_iff.1 e); omega
    generalize hold x = L at *
    rw [hn] at HH
    clear h0 hn
    obtain ⟨a0, a1, a2, a3, a4, a5, a6, a7, a8, a9, a10, a11, a12, af⟩ := HM.out.cells
    go_enter Tryz.func11, Tryz.ntmps11
    go_wp2_with fail
    refine (HH.out _ HI.out).mono ?_
    rintro e V ⟨a, cap, rfl, _, hb⟩
    have HB2 := Lib.hid (belowOn HB.out hb)
    have HX := Lib.hid (HM2.out.below hb)
    clear hb HI HB HM HM2 HH a0 a1 a2 a3 a4 a5 a6 a7 a8 a9 a10 a11 a12 af
    obtain ⟨a0, a1, a2, a3, a4, a5, a6, a7, a8, a9, a10, a11, a12, af⟩ := HX.out.cells
    go_wp2_with fail
    refine bodyPost_ret (v := .tuple #[.int .i64 x.q2, .bool true]) (by simp [results, Tryz.f11, go_sem]) rfl ?_
    exact ⟨rfl, HB2.out⟩
end Go.Proofs.YtbpkdihonemogaaGreatDoor
/- LispHolds answers true: what any mutators have that isn't in a register yet, and which registers are still to come, is as the document says. -/
namespace Go.Proofs.YtbpkdihonemogaaGreatDoor
open Go Go.RowKit
set_option maxRecDepth 100000
attribute [local go_sem ↓] Go.wp_at_zero Go.wp_at_succ

theorem late_yes (x : Mu) (h : hold x ≠ []) (w : World) : Calls Tryz.prog 11 #[x.v] w fun e w' => e = .returned (.tuple #[.int .i64 x.q2, .bool true]) ∧ Below w.heap.size w w' := by
  have := late_c x w
  rw [if_neg h, decide_eq_false h] at this
  exact this
theorem late_no (x : Mu) (h : hold x = []) (w : World) : Calls Tryz.prog 11 #[x.v] w fun e w' => e = .returned (.tuple #[.int .i64 0, .bool false]) ∧ Below w.heap.size w w' := by
  have := late_c x w
  rw [if_pos h, decide_eq_true h] at this
  exact this
set_option maxHeartbeats 6400000 in
theorem holdsL_any (g : Nat → Mu) (n : Nat) (hn : n ≤ 9223372036854775807) (va : Option Addr) (c0 : Nat) (w : World) (hS : SpansAt w) (hM : MutsIn w va n g) :
    Calls Tryz.prog 3 #[.slice va n c0] w fun e w' => e = .returned (.bool true) ∧ Below w.heap.size w w' := by
  obtain ⟨i50, hi50, hz0, hz1, hz2⟩ := info_parts infoWord
  have HM := Lib.hid hM
  have HAW := Lib.hid (awake_c w hS)
  clear hM hS
  go_enter Tryz.func3, Tryz.ntmps3
  go_wp2_with fail
  refine HAW.out.mono ?_
  rintro e W1 ⟨rfl, hW⟩
  have HB := Lib.hid hW
  clear HAW hW
  by_cases h40 : (40 : Int) < (n : Int)
  · go_wp2_with fail
    go_ret
    exact ⟨rfl, HB.out⟩
  have hn40 : n ≤ 40 := by omega
  have HF : Hid (HRow w W1 (.slice none 0 0) (holds g 0)) := Lib.hid ⟨HB.out, World.ownsRow_nil _ _ _ _⟩
  clear HB
  go_wp2_with fail
  clear h40
  go_loopw [3, 4] (fun v vi wr => ∃ k : Nat, vi = .int .i64 k ∧ k ≤ n ∧ Hid (HRow w wr v (holds g k))) (fun _ vi _ => n - (intOf vi).toNat)
  case atStart => exact ⟨0, rfl, by omega, HF⟩
  case round =>
    clear HF
    obtain ⟨k, rfl, hk, HQ⟩ := hrel
    by_cases hlt : k < n
    · have hk0 : (0 : Int) ≤ (k : Int) := by omega
      have hkn : (k : Int) < (n : Int) := by omega
      have hLn : (holds g k).length ≤ k := holds_length g k
      obtain ⟨b, off, rfl, _, hq⟩ : ∃ b off, va = some ⟨b, off, none⟩ ∧ b < wr.heap.size ∧ ∀ j, j < n → _ := by
        rcases (HM.out.below HQ.out.old) with h | h
        · omega
        · exact h
      obtain ⟨q0, q1, q2, q3, q4, q5, q6, q7, q8, q9, q10, q11, q12⟩ := hq k hlt
      have HE : Hid (holds g (k + 1) = holds g k ++ hold (g k)) := Lib.hid (holds_succ g k)
      clear hq
      generalize g k = y at *
      have HX : Hid (MuAt (wr.alloc (.cells #[.int .i64 y.l, .int .i64 y.q1, .int .i64 y.q2, .int .i64 y.q3, .int .i64 y.q4, .int .u64 y.m1, .int .u64 y.m2, .int .u64 y.m3, .int .u64 y.m4, .int .u64 y.m5, .int .u64 y.p, .int .i64 y.bk, .int .i64 y.rt] 30)) wr.heap.size y) := Lib.hid (Mut13.new wr y.l y.p y.bk y.q1 y.q2 y.q3 y.q4 y.m1 y.m2 y.m3 y.m4 y.m5 y.rt)
      have HQ1 := Lib.hid (HQ.out.below (below_new wr (.cells #[.int .i64 y.l, .int .i64 y.q1, .int .i64 y.q2, .int .i64 y.q3, .int .i64 y.q4, .int .u64 y.m1, .int .u64 y.m2, .int .u64 y.m3, .int .u64 y.m4, .int .u64 y.m5, .int .u64 y.p, .int .i64 y.bk, .int .i64 y.rt] 30)))
      generalize holds g k = L at *
      obtain ⟨a0, a1, a2, a3, a4, a5, a6, a7, a8, a9, a10, a11, a12, af⟩ := HX.out.cells
      by_cases h15' : y.l = 15
      · have h15 := Lib.hid h15'; clear h15'
        go_wp2_with fail
        generalize wr.heap.size = X at *
        clear q0 q1 q2 q3 q4 q5 q6 q7 q8 q9 q10 q11 q12
        refine (rtemp_yes y h15.out _).mono ?_
        rintro e V1 ⟨rfl, hb⟩
        have HX1 := Lib.hid (HX.out.below hb); have HQ2 := Lib.hid (HQ1.out.below hb)
        clear hb HX HQ1 a0 a1 a2 a3 a4 a5 a6 a7 a8 a9 a10 a11 a12 af
        obtain ⟨a0, a1, a2, a3, a4, a5, a6, a7, a8, a9, a10, a11, a12, af⟩ := HX1.out.cells
        go_wp2_with fail
        refine (rfresh_no y (not_both h15.out) _).mono ?_
        rintro e V2 ⟨rfl, hb⟩
        have HX2 := Lib.hid (HX1.out.below hb); have HQ3 := Lib.hid (HQ2.out.below hb)
        clear hb HX1 HQ2 a0 a1 a2 a3 a4 a5 a6 a7 a8 a9 a10 a11 a12 af
        obtain ⟨a0, a1, a2, a3, a4, a5, a6, a7, a8, a9, a10, a11, a12, af⟩ := HX2.out.cells
        go_wp2_with fail
        refine (temp_yes y h15.out _).mono ?_
        rintro e V3 ⟨rfl, hb⟩
        have HX3 := Lib.hid (HX2.out.below hb); have HQ4 := Lib.hid (HQ3.out.below hb)
        clear hb HX2 HQ3 a0 a1 a2 a3 a4 a5 a6 a7 a8 a9 a10 a11 a12 af
        obtain ⟨a0, a1, a2, a3, a4, a5, a6, a7, a8, a9, a10, a11, a12, af⟩ := HX3.out.cells
        go_wp2_with fail
        refine (fresh_no y (not_both h15.out) _).mono ?_
        rintro e V4 ⟨rfl, hb⟩
        have HX4 := Lib.hid (HX3.out.below hb); have HQ5 := Lib.hid (HQ4.out.below hb)
        clear hb HX3 HQ4 a0 a1 a2 a3 a4 a5 a6 a7 a8 a9 a10 a11 a12 af
        obtain ⟨a0, a1, a2, a3, a4, a5, a6, a7, a8, a9, a10, a11, a12, af⟩ := HX4.out.cells
        go_wp2_with fail
        refine (late_yes y (by unfold hold; rw [if_pos h15.out]; simp) _).mono ?_
        rintro e V5 ⟨rfl, hb⟩
        have HX5 := Lib.hid (HX4.out.below hb); have HQ6 := Lib.hid (HQ5.out.below hb)
        clear hb HX4 HQ5 a0 a1 a2 a3 a4 a5 a6 a7 a8 a9 a10 a11 a12 af
        obtain ⟨a0, a1, a2, a3, a4, a5, a6, a7, a8, a9, a10, a11, a12, af⟩ := HX5.out.cells
        have z1 : (y.m2 != y.m2) = false := by simp
        have z2 : (y.m3 != y.m3) = false := by simp
        have z3 : (y.q2 != y.q2) = false := by simp
        go_wp2_with (at_builtin; go_loud (refine wpList_append_lies _ (by rfl) _ _ _ (by rfl) (w.heap.size) 28 i50 _ 1 8 Tryz.underlying24 hi50 hz0 hz1 hz2 rfl (by omega) u3 L.length _ (by rfl) (HQ6.out.row.alloc _) ⟨V5.heap.size, 0, none⟩ 1 1 [.int .u64 y.m2] (by rfl) (by rfl) (World.news_of_block (cs := #[.int .u64 y.m2]) (t := 28) (fr := (0, 0)) (heap_alloc_new V5 _)) (by simp [Value.oneCell']) (by omega) (by unfold maxLen; omega) (by omega) (by have := HQ6.out.old.size; simp; omega) (V5.heap.size + 1) (by simp) ?_; intro gg cap w2 hown1 hgrow hat hlt2; have HQ7 := Lib.hid (HQ6.out.add _ hgrow hown1)))
        clear hown1 hgrow hat hlt2 HQ HQ6 HX5 z1 z2 z3 a0 a1 a2 a3 a4 a5 a6 a7 a8 a9 a10 a11 a12 af
        go_roundw
        case rel => exact ⟨k + 1, by go_num, by omega, Lib.hid (by rw [HE.out]; unfold hold; rw [if_pos h15.out]; exact HQ7.out)⟩
        case measure => simp [intOf]; omega
      · have h15 := Lib.hid h15'; clear h15'
        by_cases hf' : freshP y
        · have hf := Lib.hid hf'; clear hf'
          go_wp2_with fail
          generalize wr.heap.size = X at *
          clear q0 q1 q2 q3 q4 q5 q6 q7 q8 q9 q10 q11 q12
          refine (rtemp_no y h15.out _).mono ?_
          rintro e V1 ⟨rfl, hb⟩
          have HX1 := Lib.hid (HX.out.below hb); have HQ2 := Lib.hid (HQ1.out.below hb)
          clear hb HX HQ1 a0 a1 a2 a3 a4 a5 a6 a7 a8 a9 a10 a11 a12 af
          obtain ⟨a0, a1, a2, a3, a4, a5, a6, a7, a8, a9, a10, a11, a12, af⟩ := HX1.out.cells
          go_wp2_with fail
          refine (rfresh_yes y hf.out _).mono ?_
          rintro e V2 ⟨rfl, hb⟩
          have HX2 := Lib.hid (HX1.out.below hb); have HQ3 := Lib.hid (HQ2.out.below hb)
          clear hb HX1 HQ2 a0 a1 a2 a3 a4 a5 a6 a7 a8 a9 a10 a11 a12 af
          obtain ⟨a0, a1, a2, a3, a4, a5, a6, a7, a8, a9, a10, a11, a12, af⟩ := HX2.out.cells
          go_wp2_with fail
          refine (temp_no y h15.out _).mono ?_
          rintro e V3 ⟨rfl, hb⟩
          have HX3 := Lib.hid (HX2.out.below hb); have HQ4 := Lib.hid (HQ3.out.below hb)
          clear hb HX2 HQ3 a0 a1 a2 a3 a4 a5 a6 a7 a8 a9 a10 a11 a12 af
          obtain ⟨a0, a1, a2, a3, a4, a5, a6, a7, a8, a9, a10, a11, a12, af⟩ := HX3.out.cells
          go_wp2_with fail
          refine (fresh_yes y hf.out _).mono ?_
          rintro e V4 ⟨rfl, hb⟩
          have HX4 := Lib.hid (HX3.out.below hb); have HQ5 := Lib.hid (HQ4.out.below hb)
          clear hb HX3 HQ4 a0 a1 a2 a3 a4 a5 a6 a7 a8 a9 a10 a11 a12 af
          obtain ⟨a0, a1, a2, a3, a4, a5, a6, a7, a8, a9, a10, a11, a12, af⟩ := HX4.out.cells
          go_wp2_with fail
          refine (late_yes y (by unfold hold; rw [if_neg h15.out, if_pos hf.out]; simp) _).mono ?_
          rintro e V5 ⟨rfl, hb⟩
          have HX5 := Lib.hid (HX4.out.below hb); have HQ6 := Lib.hid (HQ5.out.below hb)
          clear hb HX4 HQ5 a0 a1 a2 a3 a4 a5 a6 a7 a8 a9 a10 a11 a12 af
          obtain ⟨a0, a1, a2, a3, a4, a5, a6, a7, a8, a9, a10, a11, a12, af⟩ := HX5.out.cells
          have z1 : (y.m2 != y.m2) = false := by simp
          have z2 : (y.m3 != y.m3) = false := by simp
          have z3 : (y.q2 != y.q2) = false := by simp
          go_wp2_with (at_builtin; go_loud (refine wpList_append_lies _ (by rfl) _ _ _ (by rfl) (w.heap.size) 28 i50 _ 1 8 Tryz.underlying24 hi50 hz0 hz1 hz2 rfl (by omega) u3 L.length _ (by rfl) (HQ6.out.row.alloc _) ⟨V5.heap.size, 0, none⟩ 1 1 [.int .u64 y.m3] (by rfl) (by rfl) (World.news_of_block (cs := #[.int .u64 y.m3]) (t := 28) (fr := (0, 0)) (heap_alloc_new V5 _)) (by simp [Value.oneCell']) (by omega) (by unfold maxLen; omega) (by omega) (by have := HQ6.out.old.size; simp; omega) (V5.heap.size + 1) (by simp) ?_; intro gg cap w2 hown1 hgrow hat hlt2; have HQ7 := Lib.hid (HQ6.out.add _ hgrow hown1)))
          clear hown1 hgrow hat hlt2 HQ HQ6 HX5 z1 z2 z3 a0 a1 a2 a3 a4 a5 a6 a7 a8 a9 a10 a11 a12 af
          go_roundw
          case rel => exact ⟨k + 1, by go_num, by omega, Lib.hid (by rw [HE.out]; unfold hold; rw [if_neg h15.out, if_pos hf.out]; exact HQ7.out)⟩
          case measure => simp [intOf]; omega
        · have hf := Lib.hid hf'; clear hf'
          go_wp2_with fail
          generalize wr.heap.size = X at *
          clear q0 q1 q2 q3 q4 q5 q6 q7 q8 q9 q10 q11 q12
          refine (rtemp_no y h15.out _).mono ?_
          rintro e V1 ⟨rfl, hb⟩
          have HX1 := Lib.hid (HX.out.below hb); have HQ2 := Lib.hid (HQ1.out.below hb)
          clear hb HX HQ1 a0 a1 a2 a3 a4 a5 a6 a7 a8 a9 a10 a11 a12 af
          obtain ⟨a0, a1, a2, a3, a4, a5, a6, a7, a8, a9, a10, a11, a12, af⟩ := HX1.out.cells
          go_wp2_with fail
          refine (rfresh_no y hf.out _).mono ?_
          rintro e V2 ⟨rfl, hb⟩
          have HX2 := Lib.hid (HX1.out.below hb); have HQ3 := Lib.hid (HQ2.out.below hb)
          clear hb HX1 HQ2 a0 a1 a2 a3 a4 a5 a6 a7 a8 a9 a10 a11 a12 af
          obtain ⟨a0, a1, a2, a3, a4, a5, a6, a7, a8, a9, a10, a11, a12, af⟩ := HX2.out.cells
          go_wp2_with fail
          refine (temp_no y h15.out _).mono ?_
          rintro e V3 ⟨rfl, hb⟩
          have HX3 := Lib.hid (HX2.out.below hb); have HQ4 := Lib.hid (HQ3.out.below hb)
          clear hb HX2 HQ3 a0 a1 a2 a3 a4 a5 a6 a7 a8 a9 a10 a11 a12 af
          obtain ⟨a0, a1, a2, a3, a4, a5, a6, a7, a8, a9, a10, a11, a12, af⟩ := HX3.out.cells
          go_wp2_with fail
          refine (fresh_no y hf.out _).mono ?_
          rintro e V4 ⟨rfl, hb⟩
          have HX4 := Lib.hid (HX3.out.below hb); have HQ5 := Lib.hid (HQ4.out.below hb)
          clear hb HX3 HQ4 a0 a1 a2 a3 a4 a5 a6 a7 a8 a9 a10 a11 a12 af
          obtain ⟨a0, a1, a2, a3, a4, a5, a6, a7, a8, a9, a10, a11, a12, af⟩ := HX4.out.cells
          go_wp2_with fail
          refine (late_no y (by unfold hold; rw [if_neg h15.out, if_neg hf.out]) _).mono ?_
          rintro e V5 ⟨rfl, hb⟩
          have HX5 := Lib.hid (HX4.out.below hb); have HQ6 := Lib.hid (HQ5.out.below hb)
          clear hb HX4 HQ5 a0 a1 a2 a3 a4 a5 a6 a7 a8 a9 a10 a11 a12 af
          obtain ⟨a0, a1, a2, a3, a4, a5, a6, a7, a8, a9, a10, a11, a12, af⟩ := HX5.out.cells
          go_wp2_with fail
          clear HQ HX5 a0 a1 a2 a3 a4 a5 a6 a7 a8 a9 a10 a11 a12 af
          go_roundw
          case rel => exact ⟨k + 1, by go_num, by omega, Lib.hid (by rw [HE.out]; unfold hold; rw [if_neg h15.out, if_neg hf.out, List.append_nil]; exact HQ6.out)⟩
          case measure => simp [intOf]; omega
    · obtain rfl : k = n := by omega
      have hl := holds_length g k
      have HH := Lib.hid (held_c g k (by omega) va c0 wr (HM.out.below HQ.out.old))
      obtain ⟨a2, cap2, rfl, hw2⟩ := HQ.out.words
      have HW2 := Lib.hid hw2; have HB := Lib.hid HQ.out.old
      clear hw2 HQ
      generalize holds g k = L at *
      go_wp2_with fail
      refine HH.out.mono ?_
      rintro e V ⟨a1, cap1, rfl, hw1, hb⟩
      have HW1 := Lib.hid hw1; have HB2 := Lib.hid (belowOn HB.out hb); have HW3 := Lib.hid (HW2.out.below hb)
      clear hw1 hb HB HW2 HH
      go_wp2_with fail
      refine (Same_c a1 a2 L.length cap1 cap2 (fun j => L.getD j 0) (by omega) V HW1.out HW3.out).mono ?_
      rintro e V2 ⟨rfl, hb⟩
      have HB3 := Lib.hid (belowOn HB2.out hb)
      clear hb HB2 HW1 HW3
      go_wp2_with fail
      go_ret
      exact ⟨rfl, HB3.out⟩
end Go.Proofs.YtbpkdihonemogaaGreatDoor
