/- What the listed variables hold, cell for cell, for the cards of this stage; an access, and a slice of accesses, that were read, as arguments: their cells. -/
import Derived.Test.YtdhejdehlomppaaDoorFrame
import Derived.Test.YtdhejdehlomppaaDoorAccessRows
import Derived.Stop.LaidErr
import Derived.Carry
namespace Go.Proofs.YtdhejdehlomppaaDoor
open Go Go.RowKit Go.WideShapes Go.ChangeShapes
section
variable {H : Type} {enc : TypeId × Value → H} {P : Program}
/-- An array of strings that reads as a list of texts holds these, cell for cell. -/
theorem cells_of_texts {w : World} {base : Nat} {sp : Nat → Bool} {held : Bool} {fuel : Nat} {t e : TypeId} {n : Nat} {cs : List Value} {zs : List (List UInt8)} {p : List MemPlace}
    (ht : P.underlying t = some (.array n e)) (he : P.underlying e = some .string) (hce : P.cellsOf e = 1) (hct : P.cellsOf t = n)
    (h : DataW.trod enc P w base sp held fuel t cs = some (.agg (zs.map fun z => .lit (.string z)), p)) : cs = zs.map fun z => Value.string ⟨z.toArray⟩ := by
  cases fuel with
  | zero => simp [DataW.trod] at h
  | succ fuel =>
    simp only [DataW.trod, ht, hce, hct, Nat.mul_one] at h
    split at h
    · rename_i hl
      obtain ⟨xs, hm, hx⟩ := Option.map_eq_some_iff.1 h
      have hxs : xs.map (·.1) = zs.map fun z => (DataW.lit (.string z) : DataW H) := by
        have := congrArg Prod.fst hx
        simpa using this
      have hxl : xs.length = n := by simpa using Lib.mapM_length hm
      have hzl : zs.length = n := by
        have := congrArg List.length hxs
        simp at this
        omega
      apply List.ext_getElem?
      intro i
      by_cases hi : i < n
      · obtain ⟨b, hb, hf⟩ := Lib.mapM_at hm i i (by simp [hi])
        obtain ⟨z, hc, rfl, _⟩ := DataW.trod_string he hf
        have h1 : cs[i]? = some (.string z) := by
          have := congrArg (·[0]?) hc
          simpa [List.getElem?_take, List.getElem?_drop] using this
        have h2 : (xs.map (·.1))[i]? = some (DataW.lit (.string z.data.toList) : DataW H) := by simp [hb]
        rw [hxs] at h2
        simp only [List.getElem?_map, Option.map_eq_some_iff, DataW.lit.injEq, Lit.string.injEq] at h2
        obtain ⟨z', hz', rfl⟩ := h2
        simp [h1, hz']
      · rw [List.getElem?_eq_none (by omega), List.getElem?_eq_none (by simp; omega)]
    · cases h
end
theorem gPow : Tryd.prog.globalNamed "internal/strconv.uint64pow10" = some 4 := by kernel_rfl
theorem gPowType : (Tryd.prog.globals[4]?).map (·.type) = some 99 := by kernel_rfl
theorem cellsPow : Tryd.prog.cellsOf 99 = 20 := by kernel_rfl
theorem cellsU64 : Tryd.prog.cellsOf 30 = 1 := by kernel_rfl
theorem gOnce : Tryd.prog.globalNamed "mudlark/place.onceNames" = some 1 := by kernel_rfl
theorem gOnceType : (Tryd.prog.globals[1]?).map (·.type) = some 46 := by kernel_rfl
theorem cellsOnce : Tryd.prog.cellsOf 46 = 5 := by kernel_rfl
theorem onceAt_of {W : World} {rest : List (String × DataW Unit)} (h : laidMet Tryd.prog (("mudlark/place.onceNames", Rows.laid_mudlark_place_onceNames) :: rest) W) : OnceAt W := by
  obtain ⟨ps, ⟨g', t', cs, fuel, p, q, hg', ht', hvar, hd, _, _⟩, _⟩ := h
  obtain rfl := Option.some.inj (gOnce.symm.trans hg')
  obtain rfl := Option.some.inj (gOnceType.symm.trans ht')
  have hcs := cells_of_texts (zs := [[102, 114, 101, 101], [103, 97, 116, 101], [100, 105, 114, 116, 121], [110, 101, 120, 116], [115, 101, 114, 118, 101]]) Tryd.underlying46 Tryd.underlying9 cellsString cellsOnce hd
  have hc := fun i => World.var?_cell gOnce hvar i
  obtain rfl : cs = #[.string ⟨#[102, 114, 101, 101]⟩, .string ⟨#[103, 97, 116, 101]⟩, .string ⟨#[100, 105, 114, 116, 121]⟩, .string ⟨#[110, 101, 120, 116]⟩, .string ⟨#[115, 101, 114, 118, 101]⟩] := by cases cs; simp at hcs; rw [hcs]
  exact ⟨hc 0, hc 1, hc 2, hc 3, hc 4⟩
theorem gPart : Tryd.prog.globalNamed "mudlark/place.partNames" = some 2 := by kernel_rfl
theorem gPartType : (Tryd.prog.globals[2]?).map (·.type) = some 58 := by kernel_rfl
theorem cellsPart : Tryd.prog.cellsOf 58 = 3 := by kernel_rfl
theorem partAt_of {W : World} {rest : List (String × DataW Unit)} (h : laidMet Tryd.prog (("mudlark/place.partNames", Rows.laid_mudlark_place_partNames) :: rest) W) : PartAt W := by
  obtain ⟨ps, ⟨g', t', cs, fuel, p, q, hg', ht', hvar, hd, _, _⟩, _⟩ := h
  obtain rfl := Option.some.inj (gPart.symm.trans hg')
  obtain rfl := Option.some.inj (gPartType.symm.trans ht')
  have hcs := cells_of_texts (zs := [[99, 97, 114], [99, 100, 114], [99, 111, 108, 111, 117, 114]]) Tryd.underlying58 Tryd.underlying9 cellsString cellsPart hd
  have hc := fun i => World.var?_cell gPart hvar i
  obtain rfl : cs = #[.string ⟨#[99, 97, 114]⟩, .string ⟨#[99, 100, 114]⟩, .string ⟨#[99, 111, 108, 111, 117, 114]⟩] := by cases cs; simp at hcs; rw [hcs]
  exact ⟨hc 0, hc 1, hc 2⟩
theorem gKind : Tryd.prog.globalNamed "mudlark/access.kindNames" = some 0 := by kernel_rfl
theorem gKindType : (Tryd.prog.globals[0]?).map (·.type) = some 46 := by kernel_rfl
theorem kindAt_of {W : World} {rest : List (String × DataW Unit)} (h : laidMet Tryd.prog (("mudlark/access.kindNames", Rows.laid_mudlark_access_kindNames) :: rest) W) : KindAt W := by
  obtain ⟨ps, ⟨g', t', cs, fuel, p, q, hg', ht', hvar, hd, _, _⟩, _⟩ := h
  obtain rfl := Option.some.inj (gKind.symm.trans hg')
  obtain rfl := Option.some.inj (gKindType.symm.trans ht')
  have hcs := cells_of_texts (zs := [[], [108, 111, 97, 100], [115, 116, 111, 114, 101], [99, 97, 115], [97, 100, 100]]) Tryd.underlying46 Tryd.underlying9 cellsString cellsOnce hd
  have hc := fun i => World.var?_cell gKind hvar i
  obtain rfl : cs = #[.string ⟨#[]⟩, .string ⟨#[108, 111, 97, 100]⟩, .string ⟨#[115, 116, 111, 114, 101]⟩, .string ⟨#[99, 97, 115]⟩, .string ⟨#[97, 100, 100]⟩] := by cases cs; simp at hcs; rw [hcs]
  intro j h1 h2
  obtain rfl | rfl | rfl | rfl : j = 1 ∨ j = 2 ∨ j = 3 ∨ j = 4 := by omega
  · exact hc 1
  · exact hc 2
  · exact hc 3
  · exact hc 4
/-- The list of the listed variables, as the three rows have it. -/
abbrev listed : List (String × DataW Unit) := Rows.accessTextsRow.laid
theorem laid6_of {W : World} (h : laidMetH Tryd.prog listed W) (_ : W.ShapedOpen Tryd.prog) : Laid6 W := by
  rw [MakeChecks.laidMetH_plain _ _ _ (by kernel_rfl)] at h
  have h1 : laidMet Tryd.prog (("math/bits.deBruijn32tab", Rows.laid_math_bits_deBruijn32tab) :: ("math/bits.deBruijn64tab", Rows.laid_math_bits_deBruijn64tab) :: ("internal/strconv.uint64pow10", Rows.laid_internal_strconv_uint64pow10) :: ("mudlark/config.spans", Rows.laid_mudlark_config_spans) :: ("mudlark/place.onceNames", Rows.laid_mudlark_place_onceNames) :: ("mudlark/place.partNames", Rows.laid_mudlark_place_partNames) :: ("mudlark/access.kindNames", Rows.laid_mudlark_access_kindNames) :: []) W := h
  have h2 := h1.tail.tail
  have h3 := h2.tail
  exact ⟨⟨spansAt h3, Lib.tabIs_of_head gPow gPowType Tryd.underlying99 Tryd.underlying30 cellsU64 cellsPow h2, onceAt_of h3.tail, partAt_of h3.tail.tail⟩, kindAt_of h3.tail.tail.tail⟩
theorem laidOut : laidOutB Tryd.prog = true := by kernel_rfl
theorem cellsWord : Tryd.prog.cellsOf 31 = 1 := by kernel_rfl
theorem cellsAcc : Tryd.prog.cellsOf 33 = 5 := by kernel_rfl
theorem u64_nat {n : Int} (h : (Lit.int .u64 n).wf = true) : ∃ m : Nat, n = m ∧ m < 18446744073709551616 := by
  have hb := bounds_u64 h
  exact ⟨n.toNat, by omega, by omega⟩
section
open Go.Joins Go.Deep Go.ChangeAt Go.WideMaps Go.WideElems
theorem acc_cells {H : Type} {enc : TypeId × Value → H} {P : Program} {w : World} {bs : Nat} {sp : Nat → Bool} {held : Bool} {fuel : Nat} {t ti tw : TypeId} {f0 f1 f2 f3 f4 : Field} {cs : List Value} {z : DataW H × List MemPlace}
    (ht : P.underlying t = some (.struct #[f0, f1, f2, f3, f4])) (e0 : f0.type = ti ∧ f0.offset = 0) (e1 : f1.type = ti ∧ f1.offset = 1) (e2 : f2.type = tw ∧ f2.offset = 2) (e3 : f3.type = tw ∧ f3.offset = 3) (e4 : f4.type = tw ∧ f4.offset = 4)
    (hi : P.underlying ti = some (.int .i64)) (hw : P.underlying tw = some (.int .u64)) (cI : P.cellsOf ti = 1) (cW : P.cellsOf tw = 1) (h : DataW.trod enc P w bs sp held fuel t cs = some z) :
    ∃ q : Acc, cs[0]? = some (.int .i64 q.k) ∧ cs[1]? = some (.int .i64 q.i) ∧ cs[2]? = some (.int .u64 q.x) ∧ cs[3]? = some (.int .u64 q.y) ∧ cs[4]? = some (.int .u64 q.o) ∧ q.ok := by
  obtain ⟨xs, n, _, _, _, hl, hf⟩ := DataW.trod_struct ht h
  have g0 := hf 0 f0 rfl
  have g1 := hf 1 f1 rfl
  have g2 := hf 2 f2 rfl
  have g3 := hf 3 f3 rfl
  have g4 := hf 4 f4 rfl
  simp only [e0.1, e0.2, e1.1, e1.2, e2.1, e2.2, e3.1, e3.2, e4.1, e4.2, cI, cW] at g0 g1 g2 g3 g4
  have hl' : xs.length = 5 := hl
  match xs, hl' with
  | [y0, y1, y2, y3, y4], _ =>
    obtain ⟨a, c0, _, _⟩ := DataW.trod_int hi (g0.trans rfl)
    obtain ⟨b, c1, _, _⟩ := DataW.trod_int hi (g1.trans rfl)
    obtain ⟨c, c2, _, w2⟩ := DataW.trod_int hw (g2.trans rfl)
    obtain ⟨d, c3, _, w3⟩ := DataW.trod_int hw (g3.trans rfl)
    obtain ⟨e, c4, _, w4⟩ := DataW.trod_int hw (g4.trans rfl)
    obtain ⟨c, rfl, u2⟩ := u64_nat w2
    obtain ⟨d, rfl, u3⟩ := u64_nat w3
    obtain ⟨e, rfl, u4⟩ := u64_nat w4
    have k0 := congrArg (·[0]?) c0
    have k1 := congrArg (·[0]?) c1
    have k2 := congrArg (·[0]?) c2
    have k3 := congrArg (·[0]?) c3
    have k4 := congrArg (·[0]?) c4
    simp [List.getElem?_drop] at k0 k1 k2 k3 k4
    exact ⟨⟨a, b, c, d, e⟩, k0, k1, k2, k3, k4, u2, u3, u4⟩
theorem acc_of {H : Type} {enc : TypeId × Value → H} {W : World} {base b0 : Nat} {r : Reach} {v : Value} {d : DataW H} {p : List MemPlace}
    (hval : Value.okWide Tryd.prog W r b0 33 v) (h : DataW.Trod enc Tryd.prog W base (fun _ => true) true 33 v d p) : ∃ q : Acc, v = accV q.k q.i q.x q.y q.o ∧ q.ok := by
  obtain ⟨cs, rfl, hsz⟩ := okWide_struct Tryd.underlying33 hval
  rw [cellsAcc] at hsz
  obtain ⟨fuel, hf⟩ := h
  obtain ⟨q, q0, q1, q2, q3, q4, hok⟩ := acc_cells Tryd.underlying33 ⟨rfl, rfl⟩ ⟨rfl, rfl⟩ ⟨rfl, rfl⟩ ⟨rfl, rfl⟩ ⟨rfl, rfl⟩ Tryd.underlying3 Tryd.underlying31 cellsInt cellsWord hf
  refine ⟨q, ?_, hok⟩
  have hcs : cs = #[.int .i64 q.k, .int .i64 q.i, .int .u64 q.x, .int .u64 q.y, .int .u64 q.o] := by
    obtain ⟨l⟩ := cs
    match l, hsz with
    | [a0, a1, a2, a3, a4], _ =>
      simp [Value.cells] at q0 q1 q2 q3 q4
      rw [q0, q1, q2, q3, q4]
  rw [hcs]
theorem accs_of {H : Type} {enc : TypeId × Value → H} {W : World} {base b0 : Nat} {r : Reach} {v : Value} {d : DataW H} {p : List MemPlace}
    (hval : Value.okWide Tryd.prog W r b0 24 v) (h : DataW.Trod enc Tryd.prog W base (fun _ => true) true 24 v d p) :
    ∃ a n cap g, v = .slice a n cap ∧ n ≤ 9223372036854775807 ∧ AccsAt W a n g ∧ ∀ j, j < n → (g j).ok := by
  obtain ⟨a0, len0, cap0, rfl⟩ := okWide_slice Tryd.underlying24 hval
  obtain ⟨fuel, hf⟩ := h
  rcases DataW.trod_slice Tryd.underlying24 hf with ⟨hcs, _⟩ | ⟨x, l, c, elems, rest, n, _, hcs, _, _, hl, hm, hlen, hel, _⟩
  · simp [Value.cells] at hcs
    obtain ⟨rfl, rfl, rfl⟩ := hcs
    exact ⟨none, 0, 0, fun _ => ⟨0, 0, 0, 0, 0⟩, rfl, by omega, .inl rfl, fun j hj => by omega⟩
  · simp [Value.cells] at hcs
    obtain ⟨rfl, rfl, rfl⟩ := hcs
    have key : ∀ j, j < len0 → ∃ q : Acc, (∀ z v, z < 5 → ([.int .i64 q.k, .int .i64 q.i, .int .u64 q.x, .int .u64 q.y, .int .u64 q.o] : List Value)[z]? = some v → W.cell? ((x.add (j * 5)).add z) = some v) ∧ q.ok := fun j hj => by
      have he := hel j hj
      rw [List.getElem?_eq_getElem (by omega)] at he
      obtain ⟨cs, hcs, ht⟩ := Option.bind_eq_some_iff.1 he
      rw [cellsAcc] at hcs
      obtain ⟨_, _, hc⟩ := World.cells?_some hcs
      obtain ⟨q, q0, q1, q2, q3, q4, u1⟩ := acc_cells Tryd.underlying33 ⟨rfl, rfl⟩ ⟨rfl, rfl⟩ ⟨rfl, rfl⟩ ⟨rfl, rfl⟩ ⟨rfl, rfl⟩ Tryd.underlying3 Tryd.underlying31 cellsInt cellsWord ht
      refine ⟨q, fun z v hz hv => (hc z hz).trans ?_, u1⟩
      match z, hv with
      | 0, hv => rw [q0, ← hv]; rfl
      | 1, hv => rw [q1, ← hv]; rfl
      | 2, hv => rw [q2, ← hv]; rfl
      | 3, hv => rw [q3, ← hv]; rfl
      | 4, hv => rw [q4, ← hv]; rfl
    have hq : ∃ g : Nat → Acc, ∀ j, j < len0 → (∀ z v, z < 5 → ([.int .i64 (g j).k, .int .i64 (g j).i, .int .u64 (g j).x, .int .u64 (g j).y, .int .u64 (g j).o] : List Value)[z]? = some v → W.cell? ((x.add (j * 5)).add z) = some v) ∧ (g j).ok := by
      refine ⟨fun j => if hj : j < len0 then Classical.choose (key j hj) else ⟨0, 0, 0, 0, 0⟩, fun j hj => ?_⟩
      simp only [hj, dif_pos]
      exact Classical.choose_spec (key j hj)
    obtain ⟨g, hg⟩ := hq
    refine ⟨some x, len0, cap0, g, rfl, by unfold maxLen at hm; omega, ?_, fun j hj => (hg j hj).2⟩
    by_cases h0 : len0 = 0
    · exact .inl h0
    · obtain ⟨b, off, spot⟩ := x
      have hspot : spot = none := by
        have := World.cell?_spot ((hg 0 (by omega)).1 0 _ (by omega) rfl)
        simpa [Addr.add] using this
      subst hspot
      have hc : ∀ j, j < len0 → ∀ z v, z < 5 → ([.int .i64 (g j).k, .int .i64 (g j).i, .int .u64 (g j).x, .int .u64 (g j).y, .int .u64 (g j).o] : List Value)[z]? = some v → W.cell? ⟨b, off + j * 5 + z, none⟩ = some v := fun j hj z v hz hv => by
        have := (hg j hj).1 z v hz hv
        rw [Addr.add_lit, Addr.add_lit] at this
        exact this
      exact .inr ⟨b, off, rfl, lt_of_cell (hc 0 (by omega) 0 _ (by omega) rfl), fun j hj => ⟨hc j hj 0 _ (by omega) rfl, hc j hj 1 _ (by omega) rfl, hc j hj 2 _ (by omega) rfl, hc j hj 3 _ (by omega) rfl, hc j hj 4 _ (by omega) rfl⟩⟩
end
end Go.Proofs.YtdhejdehlomppaaDoor
