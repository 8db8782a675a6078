/- What the listed variables hold, cell for cell, for the cards of this stage; an operation and a configuration that were read, as arguments. -/
import Derived.Test.YtaiioflhkmflgaaDoorFrame
import Derived.Test.YtaiioflhkmflgaaDoorOpRead
import Derived.Stop.LaidErr
import Derived.Carry
namespace Go.Proofs.YtaiioflhkmflgaaDoor
open Go Go.RowKit Go.WideShapes Go.ChangeShapes
section
variable {H : Type} {enc : TypeId × Value → H} {P : Program}
/-- An array of strings that reads as a list of texts holds these, cell for cell. -/
theorem cells_of_texts {w : World} {base : Nat} {sp : Nat → Bool} {held : Bool} {fuel : Nat} {t e : TypeId} {n : Nat} {cs : List Value} {zs : List (List UInt8)} {p : List MemPlace}
    (ht : P.underlying t = some (.array n e)) (he : P.underlying e = some .string) (hce : P.cellsOf e = 1) (hct : P.cellsOf t = n)
    (h : DataW.trod enc P w base sp held fuel t cs = some (.agg (zs.map fun z => .lit (.string z)), p)) : cs = zs.map fun z => Value.string ⟨z.toArray⟩ := by
  cases fuel with
  | zero => simp [DataW.trod] at h
  | succ fuel =>
    simp only [DataW.trod, ht, hce, hct, Nat.mul_one] at h
    split at h
    · rename_i hl
      obtain ⟨xs, hm, hx⟩ := Option.map_eq_some_iff.1 h
      have hxs : xs.map (·.1) = zs.map fun z => (DataW.lit (.string z) : DataW H) := by
        have := congrArg Prod.fst hx
        simpa using this
      have hxl : xs.length = n := by simpa using Lib.mapM_length hm
      have hzl : zs.length = n := by
        have := congrArg List.length hxs
        simp at this
        omega
      apply List.ext_getElem?
      intro i
      by_cases hi : i < n
      · obtain ⟨b, hb, hf⟩ := Lib.mapM_at hm i i (by simp [hi])
        obtain ⟨z, hc, rfl, _⟩ := DataW.trod_string he hf
        have h1 : cs[i]? = some (.string z) := by
          have := congrArg (·[0]?) hc
          simpa [List.getElem?_take, List.getElem?_drop] using this
        have h2 : (xs.map (·.1))[i]? = some (DataW.lit (.string z.data.toList) : DataW H) := by simp [hb]
        rw [hxs] at h2
        simp only [List.getElem?_map, Option.map_eq_some_iff, DataW.lit.injEq, Lit.string.injEq] at h2
        obtain ⟨z', hz', rfl⟩ := h2
        simp [h1, hz']
      · rw [List.getElem?_eq_none (by omega), List.getElem?_eq_none (by simp; omega)]
    · cases h
/-- A struct of two texts, read. -/
theorem pair_cells {w : World} {bs : Nat} {sp : Nat → Bool} {held : Bool} {fuel : Nat} {t ts : TypeId} {f0 f1 : Field} {cs : List Value} {z u : List UInt8} {x : DataW H × List MemPlace}
    (ht : P.underlying t = some (.struct #[f0, f1])) (e0 : f0.type = ts ∧ f0.offset = 0) (e1 : f1.type = ts ∧ f1.offset = 1) (hs : P.underlying ts = some .string)
    (cS : P.cellsOf ts = 1) (h : DataW.trod enc P w bs sp held fuel t cs = some x) (hx : x.1 = .agg [.lit (.string z), .lit (.string u)]) :
    cs[0]? = some (.string ⟨z.toArray⟩) ∧ cs[1]? = some (.string ⟨u.toArray⟩) := by
  obtain ⟨xs, n, _, rfl, _, hl, hf⟩ := DataW.trod_struct ht h
  have g0 := hf 0 f0 rfl
  have g1 := hf 1 f1 rfl
  simp only [e0.1, e0.2, e1.1, e1.2, cS] at g0 g1
  simp only [DataW.agg.injEq] at hx
  match xs, hx with
  | [y0, y1], hx =>
    simp only [List.map_cons, List.map_nil, List.cons.injEq, and_true] at hx
    obtain ⟨h0, h1⟩ := hx
    obtain ⟨s, c0, d0, _⟩ := DataW.trod_string hs (g0.trans rfl)
    obtain ⟨p, c1, d1, _⟩ := DataW.trod_string hs (g1.trans rfl)
    rw [d0] at h0; rw [d1] at h1
    simp only [DataW.lit.injEq, Lit.string.injEq] at h0 h1
    have k0 := congrArg (·[0]?) c0
    have k1 := congrArg (·[0]?) c1
    simp at k0 k1
    exact ⟨by rw [k0, ← h0], by rw [k1, ← h1]⟩
end
theorem gPow : Tryd.prog.globalNamed "internal/strconv.uint64pow10" = some 3 := by kernel_rfl
theorem gPowType : (Tryd.prog.globals[3]?).map (·.type) = some 107 := by kernel_rfl
theorem cellsPow : Tryd.prog.cellsOf 107 = 20 := by kernel_rfl
theorem cellsU64 : Tryd.prog.cellsOf 83 = 1 := by kernel_rfl
theorem gRows : Tryd.prog.globalNamed "mudlark/op.rows" = some 0 := by kernel_rfl
theorem gRowsType : (Tryd.prog.globals[0]?).map (·.type) = some 56 := by kernel_rfl
theorem cellsRow : Tryd.prog.cellsOf 55 = 2 := by kernel_rfl
theorem rows_list {H : Type} : (Rows.laid_mudlark_op_rows : DataW H) = .agg ((List.range 12).map fun i => .agg [.lit (.string (nmL i)), .lit (.string (hsL i))]) := rfl
theorem rowsAt_of {W : World} {rest : List (String × DataW Unit)} (h : laidMet Tryd.prog (("mudlark/op.rows", Rows.laid_mudlark_op_rows) :: rest) W) : RowsAt W := by
  obtain ⟨ps, ⟨g', t', cs, fuel, p, q, hg', ht', hvar, hd, _, _⟩, _⟩ := h
  obtain rfl := Option.some.inj (gRows.symm.trans hg')
  obtain rfl := Option.some.inj (gRowsType.symm.trans ht')
  obtain ⟨xs, m, _, ex, _, hl, hel⟩ := DataW.trod_array Tryd.underlying56 hd
  rw [rows_list] at ex
  have e3 : xs.map (·.1) = _ := (DataW.agg.inj (Prod.mk.inj ex).1).symm
  have hc := fun i => World.var?_cell gRows hvar i
  have key : ∀ i, i < 12 → cs[i * 2]? = some (.string ⟨(nmL i).toArray⟩) ∧ cs[i * 2 + 1]? = some (.string ⟨(hsL i).toArray⟩) := fun i hi => by
    have ei := congrArg (fun l => l[i]?) e3
    simp only [List.getElem?_map, List.getElem?_range hi, Option.map_some] at ei
    obtain ⟨y, hy, hy1⟩ := Option.map_eq_some_iff.1 ei
    have r := pair_cells Tryd.underlying55 ⟨rfl, rfl⟩ ⟨rfl, rfl⟩ Tryd.underlying9 cellsString ((hel i (by omega)).trans hy) hy1
    simp only [cellsRow, List.getElem?_take, List.getElem?_drop] at r
    simpa using r
  exact ⟨fun i hi => (hc (i * 2)).trans (key i hi).1, fun i hi => (hc (i * 2 + 1)).trans (key i hi).2⟩
theorem gRes : Tryd.prog.globalNamed "mudlark/op.results" = some 1 := by kernel_rfl
theorem gResType : (Tryd.prog.globals[1]?).map (·.type) = some 57 := by kernel_rfl
theorem cellsRes : Tryd.prog.cellsOf 57 = 7 := by kernel_rfl
theorem res_list {H : Type} : (Rows.laid_mudlark_op_results : DataW H) = .agg (((List.range 7).map rtL).map fun z => .lit (.string z)) := rfl
theorem resAt_of {W : World} {rest : List (String × DataW Unit)} (h : laidMet Tryd.prog (("mudlark/op.results", Rows.laid_mudlark_op_results) :: rest) W) : ResAt W := by
  obtain ⟨ps, ⟨g', t', cs, fuel, p, q, hg', ht', hvar, hd, _, _⟩, _⟩ := h
  obtain rfl := Option.some.inj (gRes.symm.trans hg')
  obtain rfl := Option.some.inj (gResType.symm.trans ht')
  rw [res_list] at hd
  have hcs := cells_of_texts Tryd.underlying57 Tryd.underlying9 cellsString cellsRes hd
  have hc := fun i => World.var?_cell gRes hvar i
  intro i hi
  refine (hc i).trans ?_
  have := congrArg (fun l => l[i]?) hcs
  simp only [List.map_map, List.getElem?_map, List.getElem?_range hi, Option.map_some] at this
  simpa using this
theorem rowErr (u : TypeId) (hu : Tryd.prog.typeName? 3 u = some "*errors.errorString") : u = 124 :=
  typeName_ptr_named (nm := "errors.errorString") (by kernel_rfl) (by kernel_rfl) (by decide) u hu
theorem gSyntax : Tryd.prog.globalNamed "strconv.ErrSyntax" = some 5 := by kernel_rfl
theorem gSyntaxType : (Tryd.prog.globals[5]?).map (·.type) = some 75 := by kernel_rfl
theorem gRange : Tryd.prog.globalNamed "strconv.ErrRange" = some 6 := by kernel_rfl
theorem gRangeType : (Tryd.prog.globals[6]?).map (·.type) = some 75 := by kernel_rfl
theorem cellsErr : Tryd.prog.cellsOf 126 = 1 := by kernel_rfl
/-- What OpTexts' and OpReads' rows list. -/
theorem laidP_of {W : World} (h : laidMetH Tryd.prog Rows.opReadsRow.laid W) (hs : W.ShapedOpen Tryd.prog) : LaidP W := by
  rw [MakeChecks.laidMetH_plain _ _ _ (by kernel_rfl)] at h
  have h1 : laidMet Tryd.prog (("math/bits.deBruijn32tab", Rows.laid_math_bits_deBruijn32tab) :: ("math/bits.deBruijn64tab", Rows.laid_math_bits_deBruijn64tab) :: ("internal/strconv.uint64pow10", Rows.laid_internal_strconv_uint64pow10) :: ("unicode/utf8.acceptRanges", Rows.laid_unicode_utf8_acceptRanges) :: ("strconv.ErrRange", Rows.laid_strconv_ErrRange) :: ("strconv.ErrSyntax", Rows.laid_strconv_ErrSyntax) :: ("mudlark/op.rows", Rows.laid_mudlark_op_rows) :: ("unicode/utf8.first", Rows.laid_unicode_utf8_first) :: []) W := h
  have h2 := h1.tail.tail
  have h5 := h2.tail.tail
  obtain ⟨a0, s0, hv0, _, _, _⟩ := laid_sentinel h5 gRange gRangeType Tryd.underlying75 rowErr Tryd.underlying124 Tryd.underlying126 rfl rfl Tryd.underlying9 cellsErr cellsString
  obtain ⟨a1, s1, hv1, _, _, _⟩ := laid_sentinel h5.tail gSyntax gSyntaxType Tryd.underlying75 rowErr Tryd.underlying124 Tryd.underlying126 rfl rfl Tryd.underlying9 cellsErr cellsString
  exact ⟨⟨rowsAt_of h5.tail.tail, Lib.tabIs_of_head gPow gPowType Tryd.underlying107 Tryd.underlying83 cellsU64 cellsPow h2⟩,
    ⟨124, _, by simpa using World.var?_cell gSyntax hv1 0⟩, ⟨124, _, by simpa using World.var?_cell gRange hv0 0⟩,
    cell_of_shapedOpen_int (zero := #[.int .i64 0]) (t := 3) hs (of_decide_eq_true (by kernel_rfl)) (by kernel_rfl) rfl (by kernel_rfl) (by kernel_rfl) Tryd.underlying3⟩
/-- What OpChecks' row lists. -/
theorem laidC_of {W : World} (h : laidMetH Tryd.prog Rows.opChecksRow.laid W) : SpansAt W ∧ ResAt W ∧ LaidT W := by
  rw [MakeChecks.laidMetH_plain _ _ _ (by kernel_rfl)] at h
  have h1 : laidMet Tryd.prog (("math/bits.deBruijn32tab", Rows.laid_math_bits_deBruijn32tab) :: ("math/bits.deBruijn64tab", Rows.laid_math_bits_deBruijn64tab) :: ("internal/strconv.uint64pow10", Rows.laid_internal_strconv_uint64pow10) :: ("mudlark/config.spans", Rows.laid_mudlark_config_spans) :: ("mudlark/op.rows", Rows.laid_mudlark_op_rows) :: ("mudlark/op.results", Rows.laid_mudlark_op_results) :: []) W := h
  have h2 := h1.tail.tail
  exact ⟨spansAt h2.tail, resAt_of h2.tail.tail.tail, rowsAt_of h2.tail.tail, Lib.tabIs_of_head gPow gPowType Tryd.underlying107 Tryd.underlying83 cellsU64 cellsPow h2⟩
/-- What OpPlain's row lists. -/
theorem laidN_of {W : World} (h : laidMetH Tryd.prog Rows.opPlainRow.laid W) : SpansAt W ∧ LaidT W := by
  rw [MakeChecks.laidMetH_plain _ _ _ (by kernel_rfl)] at h
  have h1 : laidMet Tryd.prog (("math/bits.deBruijn32tab", Rows.laid_math_bits_deBruijn32tab) :: ("math/bits.deBruijn64tab", Rows.laid_math_bits_deBruijn64tab) :: ("internal/strconv.uint64pow10", Rows.laid_internal_strconv_uint64pow10) :: ("mudlark/config.spans", Rows.laid_mudlark_config_spans) :: ("mudlark/op.rows", Rows.laid_mudlark_op_rows) :: []) W := h
  have h2 := h1.tail.tail
  exact ⟨spansAt h2.tail, rowsAt_of h2.tail.tail, Lib.tabIs_of_head gPow gPowType Tryd.underlying107 Tryd.underlying83 cellsU64 cellsPow h2⟩
theorem laidOut : laidOutB Tryd.prog = true := by kernel_rfl
theorem inI_of {n : Int} (h : (Lit.int .i64 n).wf = true) : inI n := by
  have hb := bounds_i64 h
  unfold inI; omega
theorem cellsOp : Tryd.prog.cellsOf 25 = 4 := by kernel_rfl
end Go.Proofs.YtaiioflhkmflgaaDoor
