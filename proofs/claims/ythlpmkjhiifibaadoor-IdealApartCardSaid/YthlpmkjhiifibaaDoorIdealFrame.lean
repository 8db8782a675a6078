/- What the listed variables hold, cell for cell, for the cards of this stage; a slice of acts that was read, as an argument. -/
import Derived.Test.YthlpmkjhiifibaaDoorFrame
import Derived.Test.YthlpmkjhiifibaaDoorIdealActs
import Derived.Stop.LaidErr
import Derived.Carry
import Derived.JoinedOf
import Derived.SizedLaws
namespace Go.Proofs.YthlpmkjhiifibaaDoor
open Go Go.ChangeShapes Go.WideShapes Go.ChangeAt Go.WideMaps Go.WideElems Go.RowKit
set_option maxRecDepth 100000
section
variable {H : Type} {enc : TypeId × Value → H} {P : Program}
/-- A struct of two texts, read. -/
theorem pair_cells {w : World} {bs : Nat} {sp : Nat → Bool} {held : Bool} {fuel : Nat} {t ts : TypeId} {f0 f1 : Field} {cs : List Value} {z u : List UInt8} {x : DataW H × List MemPlace}
    (ht : P.underlying t = some (.struct #[f0, f1])) (e0 : f0.type = ts ∧ f0.offset = 0) (e1 : f1.type = ts ∧ f1.offset = 1) (hs : P.underlying ts = some .string)
    (cS : P.cellsOf ts = 1) (h : DataW.trod enc P w bs sp held fuel t cs = some x) (hx : x.1 = .agg [.lit (.string z), .lit (.string u)]) :
    cs[0]? = some (.string ⟨z.toArray⟩) ∧ cs[1]? = some (.string ⟨u.toArray⟩) := by
  obtain ⟨xs, n, _, rfl, _, hl, hf⟩ := DataW.trod_struct ht h
  have g0 := hf 0 f0 rfl
  have g1 := hf 1 f1 rfl
  simp only [e0.1, e0.2, e1.1, e1.2, cS] at g0 g1
  simp only [DataW.agg.injEq] at hx
  match xs, hx with
  | [y0, y1], hx =>
    simp only [List.map_cons, List.map_nil, List.cons.injEq, and_true] at hx
    obtain ⟨h0, h1⟩ := hx
    obtain ⟨s, c0, d0, _⟩ := DataW.trod_string hs (g0.trans rfl)
    obtain ⟨p, c1, d1, _⟩ := DataW.trod_string hs (g1.trans rfl)
    rw [d0] at h0; rw [d1] at h1
    simp only [DataW.lit.injEq, Lit.string.injEq] at h0 h1
    have k0 := congrArg (·[0]?) c0
    have k1 := congrArg (·[0]?) c1
    simp at k0 k1
    exact ⟨by rw [k0, ← h0], by rw [k1, ← h1]⟩
end
theorem gRows : Tryd.prog.globalNamed "mudlark/op.rows" = some 1 := by kernel_rfl
theorem gRowsType : (Tryd.prog.globals[1]?).map (·.type) = some 98 := by kernel_rfl
theorem cellsRow : Tryd.prog.cellsOf 97 = 2 := by kernel_rfl
theorem rows_list {H : Type} : (Rows.laid_mudlark_op_rows : DataW H) = .agg ((List.range 12).map fun i => .agg [.lit (.string (nmL i)), .lit (.string (hsL i))]) := rfl
theorem rowsAt_of {W : World} {rest : List (String × DataW Unit)} (h : laidMet Tryd.prog (("mudlark/op.rows", Rows.laid_mudlark_op_rows) :: rest) W) : RowsAt W := by
  obtain ⟨ps, ⟨g', t', cs, fuel, p, q, hg', ht', hvar, hd, _, _⟩, _⟩ := h
  obtain rfl := Option.some.inj (gRows.symm.trans hg')
  obtain rfl := Option.some.inj (gRowsType.symm.trans ht')
  obtain ⟨xs, m, _, ex, _, hl, hel⟩ := DataW.trod_array Tryd.underlying98 hd
  rw [rows_list] at ex
  have e3 : xs.map (·.1) = _ := (DataW.agg.inj (Prod.mk.inj ex).1).symm
  have hc := fun i => World.var?_cell gRows hvar i
  have key : ∀ i, i < 12 → cs[i * 2]? = some (.string ⟨(nmL i).toArray⟩) ∧ cs[i * 2 + 1]? = some (.string ⟨(hsL i).toArray⟩) := fun i hi => by
    have ei := congrArg (fun l => l[i]?) e3
    simp only [List.getElem?_map, List.getElem?_range hi, Option.map_some] at ei
    obtain ⟨y, hy, hy1⟩ := Option.map_eq_some_iff.1 ei
    have r := pair_cells Tryd.underlying97 ⟨rfl, rfl⟩ ⟨rfl, rfl⟩ Tryd.underlying9 cellsString ((hel i (by omega)).trans hy) hy1
    simp only [cellsRow, List.getElem?_take, List.getElem?_drop] at r
    simpa using r
  exact ⟨fun i hi => (hc (i * 2)).trans (key i hi).1, fun i hi => (hc (i * 2 + 1)).trans (key i hi).2⟩
theorem laidOut : laidOutB Tryd.prog = true := by kernel_rfl
theorem inI_of {n : Int} (h : (Lit.int .i64 n).wf = true) : inI n := by
  have hb := bounds_i64 h
  unfold inI; omega
theorem cellsOp : Tryd.prog.cellsOf 35 = 4 := by kernel_rfl
theorem cellsBool : Tryd.prog.cellsOf 4 = 1 := by kernel_rfl
theorem cellsAct : Tryd.prog.cellsOf 37 = 6 := by kernel_rfl
theorem u8_nat {n : Int} (h : (Lit.int .u8 n).wf = true) : ∃ m : Nat, n = m ∧ m < 256 := by
  have hb := bounds_u8 h
  exact ⟨n.toNat, by omega, by omega⟩
/-- What the four rows list. -/
theorem laid_of {W : World} (h : laidMetH Tryd.prog Rows.idealPlaysRow.laid W) : SpansAt W ∧ RowsAt W := by
  rw [MakeChecks.laidMetH_plain _ _ _ (by kernel_rfl)] at h
  have h1 : laidMet Tryd.prog (("mudlark/config.spans", Rows.laid_mudlark_config_spans) :: ("mudlark/op.rows", Rows.laid_mudlark_op_rows) :: []) W := h
  exact ⟨spansAt h1, rowsAt_of h1.tail⟩
theorem op_cells {H : Type} {enc : TypeId × Value → H} {P : Program} {w : World} {bs : Nat} {sp : Nat → Bool} {held : Bool} {fuel : Nat} {t ti : TypeId} {f0 f1 f2 f3 : Field} {cs : List Value} {z : DataW H × List MemPlace}
    (ht : P.underlying t = some (.struct #[f0, f1, f2, f3])) (e0 : f0.type = ti ∧ f0.offset = 0) (e1 : f1.type = ti ∧ f1.offset = 1) (e2 : f2.type = ti ∧ f2.offset = 2) (e3 : f3.type = ti ∧ f3.offset = 3)
    (hi : P.underlying ti = some (.int .i64)) (cI : P.cellsOf ti = 1) (h : DataW.trod enc P w bs sp held fuel t cs = some z) :
    ∃ a b c d : Int, cs[0]? = some (.int .i64 a) ∧ cs[1]? = some (.int .i64 b) ∧ cs[2]? = some (.int .i64 c) ∧ cs[3]? = some (.int .i64 d) ∧ inI b ∧ inI c ∧ inI d := by
  obtain ⟨xs, n, _, _, _, hl, hf⟩ := DataW.trod_struct ht h
  have g0 := hf 0 f0 rfl
  have g1 := hf 1 f1 rfl
  have g2 := hf 2 f2 rfl
  have g3 := hf 3 f3 rfl
  simp only [e0.1, e0.2, e1.1, e1.2, e2.1, e2.2, e3.1, e3.2, cI] at g0 g1 g2 g3
  have hl' : xs.length = 4 := hl
  match xs, hl' with
  | [y0, y1, y2, y3], _ =>
    obtain ⟨a, c0, _, _⟩ := DataW.trod_int hi (g0.trans rfl)
    obtain ⟨b, c1, _, w1⟩ := DataW.trod_int hi (g1.trans rfl)
    obtain ⟨c, c2, _, w2⟩ := DataW.trod_int hi (g2.trans rfl)
    obtain ⟨d, c3, _, w3⟩ := DataW.trod_int hi (g3.trans rfl)
    have k0 := congrArg (·[0]?) c0
    have k1 := congrArg (·[0]?) c1
    have k2 := congrArg (·[0]?) c2
    have k3 := congrArg (·[0]?) c3
    simp [List.getElem?_drop] at k0 k1 k2 k3
    exact ⟨a, b, c, d, k0, k1, k2, k3, inI_of w1, inI_of w2, inI_of w3⟩
theorem act_cells {H : Type} {enc : TypeId × Value → H} {w : World} {bs : Nat} {sp : Nat → Bool} {held : Bool} {fuel : Nat} {f0 f1 f2 : Field} {cs : List Value} {z : DataW H × List MemPlace}
    (ht : Tryd.prog.underlying 37 = some (.struct #[f0, f1, f2])) (e0 : f0.type = 3 ∧ f0.offset = 0) (e1 : f1.type = 35 ∧ f1.offset = 1) (e2 : f2.type = 4 ∧ f2.offset = 5)
    (h : DataW.trod enc Tryd.prog w bs sp held fuel 37 cs = some z) :
    ∃ q : ActN, (cs[0]? = some (.int .i64 q.m) ∧ cs[1]? = some (.int .i64 q.k) ∧ cs[2]? = some (.int .i64 q.x) ∧ cs[3]? = some (.int .i64 q.y) ∧ cs[4]? = some (.int .i64 q.z) ∧ cs[5]? = some (.bool q.full)) ∧ inI q.x ∧ inI q.y ∧ inI q.z := by
  obtain ⟨xs, n, _, _, _, hl, hf⟩ := DataW.trod_struct ht h
  have g0 := hf 0 f0 rfl
  have g1 := hf 1 f1 rfl
  have g2 := hf 2 f2 rfl
  simp only [e0.1, e0.2, e1.1, e1.2, e2.1, e2.2, cellsInt, cellsOp, cellsBool] at g0 g1 g2
  have hl' : xs.length = 3 := hl
  match xs, hl' with
  | [y0, y1, y2], _ =>
    obtain ⟨m, c0, _, _⟩ := DataW.trod_int Tryd.underlying3 (g0.trans rfl)
    obtain ⟨k, x, y, z, k1, k2, k3, k4, i1, i2, i3⟩ := op_cells Tryd.underlying35 ⟨rfl, rfl⟩ ⟨rfl, rfl⟩ ⟨rfl, rfl⟩ ⟨rfl, rfl⟩ Tryd.underlying3 cellsInt (g1.trans rfl)
    obtain ⟨f, c5, _⟩ := DataW.trod_bool Tryd.underlying4 (g2.trans rfl)
    have k0 := congrArg (·[0]?) c0
    have k5 := congrArg (·[0]?) c5
    simp [List.getElem?_drop] at k0 k1 k2 k3 k4 k5
    exact ⟨⟨m, k, x, y, z, f⟩, ⟨k0, k1, k2, k3, k4, k5⟩, i1, i2, i3⟩
theorem acts_of {H : Type} {enc : TypeId × Value → H} {W : World} {base b0 : Nat} {r : Reach} {v : Value} {d : DataW H} {p : List MemPlace}
    (hval : Value.okWide Tryd.prog W r b0 22 v) (h : DataW.Trod enc Tryd.prog W base (fun _ => true) true 22 v d p) :
    ∃ a n cap g, v = .slice a n cap ∧ GivenActs W a n g := by
  obtain ⟨a0, len0, cap0, rfl⟩ := okWide_slice Tryd.underlying22 hval
  obtain ⟨fuel, hf⟩ := h
  rcases DataW.trod_slice Tryd.underlying22 hf with ⟨hcs, _⟩ | ⟨x, l, c, elems, rest, n, _, hcs, _, _, hl, hm, hlen, hel, _⟩
  · simp [Value.cells] at hcs
    obtain ⟨rfl, rfl, rfl⟩ := hcs
    exact ⟨none, 0, 0, fun _ => ⟨0, 0, 0, 0, 0, false⟩, rfl, by omega, .inl rfl, fun j hj => by omega⟩
  · simp [Value.cells] at hcs
    obtain ⟨rfl, rfl, rfl⟩ := hcs
    have key : ∀ j, j < len0 → ∃ q : ActN, (∀ z v, z < 6 → ([.int .i64 q.m, .int .i64 q.k, .int .i64 q.x, .int .i64 q.y, .int .i64 q.z, .bool q.full] : List Value)[z]? = some v → W.cell? ((x.add (j * 6)).add z) = some v) ∧ inI q.x ∧ inI q.y ∧ inI q.z := fun j hj => by
      have he := hel j hj
      rw [List.getElem?_eq_getElem (by omega)] at he
      obtain ⟨cs, hcs, ht⟩ := Option.bind_eq_some_iff.1 he
      rw [cellsAct] at hcs
      obtain ⟨_, _, hc⟩ := World.cells?_some hcs
      obtain ⟨q, ⟨q0, q1, q2, q3, q4, q5⟩, i1, i2, i3⟩ := act_cells Tryd.underlying37 ⟨rfl, rfl⟩ ⟨rfl, rfl⟩ ⟨rfl, rfl⟩ ht
      refine ⟨q, fun z v hz hv => (hc z hz).trans ?_, i1, i2, i3⟩
      match z, hv with
      | 0, hv => rw [q0, ← hv]; rfl
      | 1, hv => rw [q1, ← hv]; rfl
      | 2, hv => rw [q2, ← hv]; rfl
      | 3, hv => rw [q3, ← hv]; rfl
      | 4, hv => rw [q4, ← hv]; rfl
      | 5, hv => rw [q5, ← hv]; rfl
    have hq : ∃ g : Nat → ActN, ∀ j, j < len0 → (∀ z v, z < 6 → ([.int .i64 (g j).m, .int .i64 (g j).k, .int .i64 (g j).x, .int .i64 (g j).y, .int .i64 (g j).z, .bool (g j).full] : List Value)[z]? = some v → W.cell? ((x.add (j * 6)).add z) = some v) ∧ inI (g j).x ∧ inI (g j).y ∧ inI (g j).z := by
      refine ⟨fun j => if hj : j < len0 then Classical.choose (key j hj) else ⟨0, 0, 0, 0, 0, false⟩, fun j hj => ?_⟩
      simp only [hj, dif_pos]
      exact Classical.choose_spec (key j hj)
    obtain ⟨g, hg⟩ := hq
    refine ⟨some x, len0, cap0, g, rfl, by unfold maxLen at hm; omega, ?_, fun j hj => (hg j hj).2⟩
    by_cases h0 : len0 = 0
    · exact .inl h0
    · obtain ⟨b, off, spot⟩ := x
      have hspot : spot = none := by
        have := World.cell?_spot ((hg 0 (by omega)).1 0 _ (by omega) rfl)
        simpa [Addr.add] using this
      subst hspot
      have hc : ∀ j, j < len0 → ∀ z v, z < 6 → ([.int .i64 (g j).m, .int .i64 (g j).k, .int .i64 (g j).x, .int .i64 (g j).y, .int .i64 (g j).z, .bool (g j).full] : List Value)[z]? = some v → W.cell? ⟨b, off + j * 6 + z, none⟩ = some v := fun j hj z v hz hv => by
        have := (hg j hj).1 z v hz hv
        rw [Addr.add_lit, Addr.add_lit] at this
        exact this
      exact .inr ⟨b, off, rfl, lt_of_cell (hc 0 (by omega) 0 _ (by omega) rfl), fun j hj => ⟨hc j hj 0 _ (by omega) rfl, hc j hj 1 _ (by omega) rfl, hc j hj 2 _ (by omega) rfl, hc j hj 3 _ (by omega) rfl, hc j hj 4 _ (by omega) rfl, hc j hj 5 _ (by omega) rfl⟩⟩
end Go.Proofs.YthlpmkjhiifibaaDoor
