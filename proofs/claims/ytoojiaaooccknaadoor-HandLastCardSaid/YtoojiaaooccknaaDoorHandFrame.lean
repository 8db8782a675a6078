/- What the listed variable holds, for the cards of this stage; a slice of words, and a slice of acts, that were read, as arguments: their cells. -/
import Derived.Test.YtoojiaaooccknaaDoorFrame
import Derived.Test.YtoojiaaooccknaaDoorHandBoth
import Derived.Stop.LaidErr
import Derived.Carry
import Derived.JoinedOf
import Derived.SizedLaws
namespace Go.Proofs.YtoojiaaooccknaaDoor
open Go Go.ChangeShapes Go.WideShapes Go.ChangeAt Go.WideMaps Go.WideElems Go.RowKit
set_option maxRecDepth 100000
/-- The list of the listed variables, as the three rows have it. -/
abbrev listed : List (String × DataW Unit) := Rows.handPlaysRow.laid
theorem spans_of {W : World} (h : laidMetH Tryd.prog listed W) : SpansAt W := by
  rw [MakeChecks.laidMetH_plain _ _ _ (by kernel_rfl)] at h
  have h1 : laidMet Tryd.prog (("mudlark/config.spans", Rows.laid_mudlark_config_spans) :: []) W := h
  exact spansAt h1
theorem laidOut : laidOutB Tryd.prog = true := by kernel_rfl
theorem cellsWord : Tryd.prog.cellsOf 37 = 1 := by kernel_rfl
theorem cellsAct : Tryd.prog.cellsOf 47 = 4 := by kernel_rfl
theorem u64_of {x : Int} (h : (Lit.int .u64 x).wf = true) : U64 x := by have := bounds_u64 h; unfold U64; omega
theorem u64_nat {n : Int} (h : (Lit.int .u64 n).wf = true) : ∃ m : Nat, n = m ∧ m < 18446744073709551616 := by
  have hb := bounds_u64 h
  exact ⟨n.toNat, by omega, by omega⟩
theorem given_of {H : Type} {enc : TypeId × Value → H} {W : World} {base b0 : Nat} {r : Reach} {v : Value} {d : DataW H} {p : List MemPlace}
    (hval : Value.okWide Tryd.prog W r b0 24 v) (h : DataW.Trod enc Tryd.prog W base (fun _ => true) true 24 v d p) :
    ∃ a n cap f, v = .slice a n cap ∧ Given W a n cap f := by
  obtain ⟨a0, len0, cap0, rfl⟩ := okWide_slice Tryd.underlying24 hval
  obtain ⟨fuel, hf⟩ := h
  rcases open_ints Tryd.underlying24 Tryd.underlying37 cellsWord hf with ⟨hcs, _⟩ | ⟨x, l, c, zs, hcs, _, hl, hm, hz, _, hcell, hwz⟩
  · simp [Value.cells] at hcs
    obtain ⟨rfl, rfl, rfl⟩ := hcs
    exact ⟨none, 0, 0, fun _ => 0, rfl, by omega, .inl rfl, fun _ => ⟨Int.le_refl 0, show (0 : Int) < 18446744073709551616 by decide⟩, fun _ => ⟨rfl, rfl⟩⟩
  · simp [Value.cells] at hcs
    obtain ⟨rfl, rfl, rfl⟩ := hcs
    refine ⟨some x, len0, cap0, fun j => zs[j]?.getD 0, rfl, by unfold maxLen at hm; omega, ?_, fun j => (by have := range_u64 hwz j; unfold U64; omega : U64 (zs[j]?.getD 0)), fun e => by cases e⟩
    have hz' : cap0 = zs.length := by simpa using hz.symm
    by_cases h0 : len0 = 0
    · exact .inl h0
    · obtain ⟨b, off, rfl, hc'⟩ := ints_at hcell (show 0 < zs.length by omega)
      exact .inr ⟨b, off, rfl, lt_of_cell (hc' 0 (by omega)), fun j hj => by rw [hc' j (by omega)]; simp [List.getD]⟩
theorem act_cells {H : Type} {enc : TypeId × Value → H} {P : Program} {w : World} {bs : Nat} {sp : Nat → Bool} {held : Bool} {fuel : Nat} {t ti tw : TypeId} {f0 f1 f2 f3 : Field} {cs : List Value} {z : DataW H × List MemPlace}
    (ht : P.underlying t = some (.struct #[f0, f1, f2, f3])) (e0 : f0.type = ti ∧ f0.offset = 0) (e1 : f1.type = ti ∧ f1.offset = 1) (e2 : f2.type = tw ∧ f2.offset = 2) (e3 : f3.type = tw ∧ f3.offset = 3)
    (hi : P.underlying ti = some (.int .i64)) (hw : P.underlying tw = some (.int .u64)) (cI : P.cellsOf ti = 1) (cW : P.cellsOf tw = 1) (h : DataW.trod enc P w bs sp held fuel t cs = some z) :
    ∃ q : ActN, cs[0]? = some (.int .i64 q.k) ∧ cs[1]? = some (.int .i64 q.i) ∧ cs[2]? = some (.int .u64 q.x) ∧ cs[3]? = some (.int .u64 q.y) ∧ U64 q.x ∧ U64 q.y := by
  obtain ⟨xs, n, _, _, _, hl, hf⟩ := DataW.trod_struct ht h
  have g0 := hf 0 f0 rfl
  have g1 := hf 1 f1 rfl
  have g2 := hf 2 f2 rfl
  have g3 := hf 3 f3 rfl
  simp only [e0.1, e0.2, e1.1, e1.2, e2.1, e2.2, e3.1, e3.2, cI, cW] at g0 g1 g2 g3
  have hl' : xs.length = 4 := hl
  match xs, hl' with
  | [y0, y1, y2, y3], _ =>
    obtain ⟨a, c0, _, _⟩ := DataW.trod_int hi (g0.trans rfl)
    obtain ⟨b, c1, _, _⟩ := DataW.trod_int hi (g1.trans rfl)
    obtain ⟨c, c2, _, w2⟩ := DataW.trod_int hw (g2.trans rfl)
    obtain ⟨d, c3, _, w3⟩ := DataW.trod_int hw (g3.trans rfl)
    have k0 := congrArg (·[0]?) c0
    have k1 := congrArg (·[0]?) c1
    have k2 := congrArg (·[0]?) c2
    have k3 := congrArg (·[0]?) c3
    simp [List.getElem?_drop] at k0 k1 k2 k3
    exact ⟨⟨a, b, c, d⟩, k0, k1, k2, k3, u64_of w2, u64_of w3⟩
theorem acts_of {H : Type} {enc : TypeId × Value → H} {W : World} {base b0 : Nat} {r : Reach} {v : Value} {d : DataW H} {p : List MemPlace}
    (hval : Value.okWide Tryd.prog W r b0 25 v) (h : DataW.Trod enc Tryd.prog W base (fun _ => true) true 25 v d p) :
    ∃ a n cap g, v = .slice a n cap ∧ GivenActs W a n g := by
  obtain ⟨a0, len0, cap0, rfl⟩ := okWide_slice Tryd.underlying25 hval
  obtain ⟨fuel, hf⟩ := h
  rcases DataW.trod_slice Tryd.underlying25 hf with ⟨hcs, _⟩ | ⟨x, l, c, elems, rest, n, _, hcs, _, _, hl, hm, hlen, hel, _⟩
  · simp [Value.cells] at hcs
    obtain ⟨rfl, rfl, rfl⟩ := hcs
    exact ⟨none, 0, 0, fun _ => ⟨0, 0, 0, 0⟩, rfl, by omega, .inl rfl, fun j hj => by omega⟩
  · simp [Value.cells] at hcs
    obtain ⟨rfl, rfl, rfl⟩ := hcs
    have key : ∀ j, j < len0 → ∃ q : ActN, (∀ z v, z < 4 → ([.int .i64 q.k, .int .i64 q.i, .int .u64 q.x, .int .u64 q.y] : List Value)[z]? = some v → W.cell? ((x.add (j * 4)).add z) = some v) ∧ U64 q.x ∧ U64 q.y := fun j hj => by
      have he := hel j hj
      rw [List.getElem?_eq_getElem (by omega)] at he
      obtain ⟨cs, hcs, ht⟩ := Option.bind_eq_some_iff.1 he
      rw [cellsAct] at hcs
      obtain ⟨_, _, hc⟩ := World.cells?_some hcs
      obtain ⟨q, q0, q1, q2, q3, u1, u2⟩ := act_cells Tryd.underlying47 ⟨rfl, rfl⟩ ⟨rfl, rfl⟩ ⟨rfl, rfl⟩ ⟨rfl, rfl⟩ Tryd.underlying3 Tryd.underlying37 cellsInt cellsWord ht
      refine ⟨q, fun z v hz hv => (hc z hz).trans ?_, u1, u2⟩
      match z, hv with
      | 0, hv => rw [q0, ← hv]; rfl
      | 1, hv => rw [q1, ← hv]; rfl
      | 2, hv => rw [q2, ← hv]; rfl
      | 3, hv => rw [q3, ← hv]; rfl
    have hq : ∃ g : Nat → ActN, ∀ j, j < len0 → (∀ z v, z < 4 → ([.int .i64 (g j).k, .int .i64 (g j).i, .int .u64 (g j).x, .int .u64 (g j).y] : List Value)[z]? = some v → W.cell? ((x.add (j * 4)).add z) = some v) ∧ U64 (g j).x ∧ U64 (g j).y := by
      refine ⟨fun j => if hj : j < len0 then Classical.choose (key j hj) else ⟨0, 0, 0, 0⟩, fun j hj => ?_⟩
      simp only [hj, dif_pos]
      exact Classical.choose_spec (key j hj)
    obtain ⟨g, hg⟩ := hq
    refine ⟨some x, len0, cap0, g, rfl, by unfold maxLen at hm; omega, ?_, fun j hj => (hg j hj).2⟩
    by_cases h0 : len0 = 0
    · exact .inl h0
    · obtain ⟨b, off, spot⟩ := x
      have hspot : spot = none := by
        have := World.cell?_spot ((hg 0 (by omega)).1 0 _ (by omega) rfl)
        simpa [Addr.add] using this
      subst hspot
      have hc : ∀ j, j < len0 → ∀ z v, z < 4 → ([.int .i64 (g j).k, .int .i64 (g j).i, .int .u64 (g j).x, .int .u64 (g j).y] : List Value)[z]? = some v → W.cell? ⟨b, off + j * 4 + z, none⟩ = some v := fun j hj z v hz hv => by
        have := (hg j hj).1 z v hz hv
        rw [Addr.add_lit, Addr.add_lit] at this
        exact this
      exact .inr ⟨b, off, rfl, lt_of_cell (hc 0 (by omega) 0 _ (by omega) rfl), fun j hj => ⟨hc j hj 0 _ (by omega) rfl, hc j hj 1 _ (by omega) rfl, hc j hj 2 _ (by omega) rfl, hc j hj 3 _ (by omega) rfl⟩⟩
end Go.Proofs.YtoojiaaooccknaaDoor
