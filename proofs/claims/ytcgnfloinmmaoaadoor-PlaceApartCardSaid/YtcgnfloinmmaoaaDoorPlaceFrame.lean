/- What the listed variables hold, cell for cell, for the cards of PlaceNames and PlaceApart. -/
import Derived.Test.YtcgnfloinmmaoaaDoorFrame
import Derived.Test.YtcgnfloinmmaoaaDoorPlaceName
import Derived.Stop.LaidErr
namespace Go.Proofs.YtcgnfloinmmaoaaDoor
open Go Go.RowKit Go.WideShapes Go.ChangeShapes
section
variable {H : Type} {enc : TypeId × Value → H} {P : Program}
/-- An array of strings that reads as a list of texts holds these, cell for cell. -/
theorem cells_of_texts {w : World} {base : Nat} {sp : Nat → Bool} {held : Bool} {fuel : Nat} {t e : TypeId} {n : Nat} {cs : List Value} {zs : List (List UInt8)} {p : List MemPlace}
    (ht : P.underlying t = some (.array n e)) (he : P.underlying e = some .string) (hce : P.cellsOf e = 1) (hct : P.cellsOf t = n)
    (h : DataW.trod enc P w base sp held fuel t cs = some (.agg (zs.map fun z => .lit (.string z)), p)) : cs = zs.map fun z => Value.string ⟨z.toArray⟩ := by
  cases fuel with
  | zero => simp [DataW.trod] at h
  | succ fuel =>
    simp only [DataW.trod, ht, hce, hct, Nat.mul_one] at h
    split at h
    · rename_i hl
      obtain ⟨xs, hm, hx⟩ := Option.map_eq_some_iff.1 h
      have hxs : xs.map (·.1) = zs.map fun z => (DataW.lit (.string z) : DataW H) := by
        have := congrArg Prod.fst hx
        simpa using this
      have hxl : xs.length = n := by simpa using Lib.mapM_length hm
      have hzl : zs.length = n := by
        have := congrArg List.length hxs
        simp at this
        omega
      apply List.ext_getElem?
      intro i
      by_cases hi : i < n
      · obtain ⟨b, hb, hf⟩ := Lib.mapM_at hm i i (by simp [hi])
        obtain ⟨z, hc, rfl, _⟩ := DataW.trod_string he hf
        have h1 : cs[i]? = some (.string z) := by
          have := congrArg (·[0]?) hc
          simpa [List.getElem?_take, List.getElem?_drop] using this
        have h2 : (xs.map (·.1))[i]? = some (DataW.lit (.string z.data.toList) : DataW H) := by simp [hb]
        rw [hxs] at h2
        simp only [List.getElem?_map, Option.map_eq_some_iff, DataW.lit.injEq, Lit.string.injEq] at h2
        obtain ⟨z', hz', rfl⟩ := h2
        simp [h1, hz']
      · rw [List.getElem?_eq_none (by omega), List.getElem?_eq_none (by simp; omega)]
    · cases h
end
theorem gPow : Tryd.prog.globalNamed "internal/strconv.uint64pow10" = some 3 := by kernel_rfl
theorem gPowType : (Tryd.prog.globals[3]?).map (·.type) = some 92 := by kernel_rfl
theorem cellsPow : Tryd.prog.cellsOf 92 = 20 := by kernel_rfl
theorem cellsU64 : Tryd.prog.cellsOf 58 = 1 := by kernel_rfl
theorem gOnce : Tryd.prog.globalNamed "mudlark/place.onceNames" = some 0 := by kernel_rfl
theorem gOnceType : (Tryd.prog.globals[0]?).map (·.type) = some 52 := by kernel_rfl
theorem cellsOnce : Tryd.prog.cellsOf 52 = 5 := by kernel_rfl
theorem onceAt_of {W : World} {rest : List (String × DataW Unit)} (h : laidMet Tryd.prog (("mudlark/place.onceNames", Rows.laid_mudlark_place_onceNames) :: rest) W) : OnceAt W := by
  obtain ⟨ps, ⟨g', t', cs, fuel, p, q, hg', ht', hvar, hd, _, _⟩, _⟩ := h
  obtain rfl := Option.some.inj (gOnce.symm.trans hg')
  obtain rfl := Option.some.inj (gOnceType.symm.trans ht')
  have hcs := cells_of_texts (zs := [[102, 114, 101, 101], [103, 97, 116, 101], [100, 105, 114, 116, 121], [110, 101, 120, 116], [115, 101, 114, 118, 101]]) Tryd.underlying52 Tryd.underlying9 cellsString cellsOnce hd
  have hc := fun i => World.var?_cell gOnce hvar i
  obtain rfl : cs = #[.string ⟨#[102, 114, 101, 101]⟩, .string ⟨#[103, 97, 116, 101]⟩, .string ⟨#[100, 105, 114, 116, 121]⟩, .string ⟨#[110, 101, 120, 116]⟩, .string ⟨#[115, 101, 114, 118, 101]⟩] := by cases cs; simp at hcs; rw [hcs]
  exact ⟨hc 0, hc 1, hc 2, hc 3, hc 4⟩
theorem gPart : Tryd.prog.globalNamed "mudlark/place.partNames" = some 1 := by kernel_rfl
theorem gPartType : (Tryd.prog.globals[1]?).map (·.type) = some 54 := by kernel_rfl
theorem cellsPart : Tryd.prog.cellsOf 54 = 3 := by kernel_rfl
theorem partAt_of {W : World} {rest : List (String × DataW Unit)} (h : laidMet Tryd.prog (("mudlark/place.partNames", Rows.laid_mudlark_place_partNames) :: rest) W) : PartAt W := by
  obtain ⟨ps, ⟨g', t', cs, fuel, p, q, hg', ht', hvar, hd, _, _⟩, _⟩ := h
  obtain rfl := Option.some.inj (gPart.symm.trans hg')
  obtain rfl := Option.some.inj (gPartType.symm.trans ht')
  have hcs := cells_of_texts (zs := [[99, 97, 114], [99, 100, 114], [99, 111, 108, 111, 117, 114]]) Tryd.underlying54 Tryd.underlying9 cellsString cellsPart hd
  have hc := fun i => World.var?_cell gPart hvar i
  obtain rfl : cs = #[.string ⟨#[99, 97, 114]⟩, .string ⟨#[99, 100, 114]⟩, .string ⟨#[99, 111, 108, 111, 117, 114]⟩] := by cases cs; simp at hcs; rw [hcs]
  exact ⟨hc 0, hc 1, hc 2⟩
/-- The list of the listed variables, as both rows have it. -/
abbrev listed : List (String × DataW Unit) := Rows.placeNamesRow.laid
theorem laid4_of {W : World} (h : laidMetH Tryd.prog listed W) (_ : W.ShapedOpen Tryd.prog) : Laid4 W := by
  rw [MakeChecks.laidMetH_plain _ _ _ (by kernel_rfl)] at h
  have h1 : laidMet Tryd.prog (("math/bits.deBruijn32tab", Rows.laid_math_bits_deBruijn32tab) :: ("math/bits.deBruijn64tab", Rows.laid_math_bits_deBruijn64tab) :: ("internal/strconv.uint64pow10", Rows.laid_internal_strconv_uint64pow10) :: ("mudlark/config.spans", Rows.laid_mudlark_config_spans) :: ("mudlark/place.onceNames", Rows.laid_mudlark_place_onceNames) :: ("mudlark/place.partNames", Rows.laid_mudlark_place_partNames) :: []) W := h
  have h2 := h1.tail.tail
  have h3 := h2.tail
  exact ⟨spansAt h3, Lib.tabIs_of_head gPow gPowType Tryd.underlying92 Tryd.underlying58 cellsU64 cellsPow h2, onceAt_of h3.tail, partAt_of h3.tail.tail⟩
end Go.Proofs.YtcgnfloinmmaoaaDoor
