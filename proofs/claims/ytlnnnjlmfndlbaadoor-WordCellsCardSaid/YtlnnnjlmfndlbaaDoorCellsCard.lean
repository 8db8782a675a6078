/- For every list of words, in whatever memory in which the three listed tables of the library read as its text lays them, the law WordCells returns true and its argument reads as before: the card. -/
import Derived.Test.YtlnnnjlmfndlbaaDoorFrame
import Derived.Test.YtlnnnjlmfndlbaaDoorCells
import Derived.Carry
import Derived.Lib.AtoiErrMem
namespace Go.Proofs.YtlnnnjlmfndlbaaDoor.wordCells
open Go.ChangeShapes Go.WideShapes Go.ChangeAt Go.WideMaps Go.WideElems Go.RowKit

theorem laidOut : laidOutB Tryd.prog = true := by kernel_rfl
theorem cells23 : Tryd.prog.cellsOf 23 = 1 := by kernel_rfl
theorem door_met (os : Os) (args : Array Value) : laidMetH Tryd.prog Rows.wordCellsRow.laid ((World.doorLaid Tryd.prog 62 os).forCall (fun _ _ => 0) ⟨#[], args, []⟩).memory :=
  laidMetH_of_parts3 (fuel := 8) (laidMet_of_run' 8 (by kernel_rfl) (by kernel_rfl)) (by kernel_rfl) (by kernel_rfl)
theorem wordsOf (zs : List Int) (h : ∀ n ∈ zs, (Lit.int .u64 n).wf = true) : ∃ us : List UInt64, us.length = zs.length ∧ ∀ j, j < zs.length → ((us[j]?.getD 0).toNat : Int) = zs.getD j 0 := by
  refine ⟨zs.map fun n => UInt64.ofNat n.toNat, by simp, fun j hj => ?_⟩
  have hb := bounds_u64 (h zs[j] (List.getElem_mem hj))
  simp only [List.getElem?_map, List.getElem?_eq_getElem hj, Option.map_some, Option.getD_some, List.getD, UInt64.toNat_ofNat']
  omega
/-- The law at a slice value that was read. -/
theorem law (a : Option Addr) (len cap : Nat) (W : World) (h : (a = none ∧ len = 0 ∧ cap = 0) ∨ ∃ (ad : Addr) (zs : List Int), a = some ad ∧ len ≤ zs.length ∧ len ≤ maxLen ∧ (∀ i, i < zs.length → W.cell? (ad.add i) = some (.int .u64 (zs.getD i 0))) ∧ ∀ n ∈ zs, (Lit.int .u64 n).wf = true) :
    Calls Tryd.prog 6 #[.slice a len cap] W fun e w' => e = .returned (.bool true) ∧ Below W.heap.size W w' := by
  rcases h with ⟨rfl, rfl, rfl⟩ | ⟨ad, zs, rfl, hlz, hm, hc, hw⟩
  · exact cellsLaw_nil W
  · by_cases h0 : len = 0
    · subst h0; exact cellsLaw_zero ad cap W
    · by_cases hl : 60 < len
      · exact cellsLaw_long _ _ _ hl (by unfold maxLen at hm; omega) W
      · obtain ⟨us, hul, hu⟩ := wordsOf zs hw
        obtain ⟨b, off, rfl, hc'⟩ := ints_at hc (show 0 < zs.length by omega)
        have hb : b < W.heap.size := Lib.lt_of_cell (hc' 0 (by omega))
        have hlen : (us.take len).length = len := by rw [List.length_take]; omega
        have := cellsLaw_some b off cap (us.take len) (by omega) W hb (fun j hj => by
          rw [hlen] at hj
          rw [hc' j (by omega), List.getElem?_take_of_lt hj, hu j (by omega)])
        rw [hlen] at this
        exact this

set_option maxRecDepth 100000 in
theorem lifted (os : Os) (started : os.Started) (H : Type) (enc : TypeId × Value → H) :
    ReturnsInHanded {} Tryd.checked os 6 .any (fun w args => (Rows.wordCellsSpec.pre enc Tryd.prog Tryd.f6 [] false w args ∧ laidMetH Tryd.prog Rows.wordCellsRow.laid w) ∧ sizedMet enc Tryd.prog Tryd.f6 (OpenSpec.ofChange Rows.wordCellsSpec) false w args)
      (Rows.wordCellsSpec.post enc Tryd.prog Tryd.f6 false true false false) := by
  refine returnsInHanded_of_change_and (C := Tryd.checked) (X := fun w _ => laidMetH Tryd.prog Rows.wordCellsRow.laid w) (fun _ _ _ hh h => h.of_heap hh) own started (by kernel_rfl) Tryd.func6
    (ChangeSpec.witness_shaped (enc := enc) (C := Tryd.checked) (os := os) (X := fun w _ => laidMetH Tryd.prog Rows.wordCellsRow.laid w) false (World.doorLaid Tryd.prog 62 os) #[.slice none 0 0] 8 rfl (World.shaped_of_RefB (by kernel_rfl) (by kernel_rfl)) (by kernel_rfl) (by kernel_rfl) (by kernel_rfl) (door_met os _)) ?_
  intro W base args ds gs before hval0 hW _ _ hL _
  have hval : ∀ (j : Nat) t v, Tryd.f6.params[j]? = some t → args[j]? = some v → Value.okWide Tryd.prog W .any base t v := hval0
  have hW' := hW
  obtain ⟨p, q, hA0, hV, rfl, hfz, hnd⟩ := hW
  have hA : DataW.TrodAll enc Tryd.prog W 0 (fun _ => true) true Tryd.f6.params.toList args.toList ds p := hA0
  rw [Tryd.params6] at hA hval
  obtain ⟨v0, vs0, d0, ds0, p0, q0, hargs, rfl, rfl, h0, r0⟩ := trodAll_cons hA
  obtain ⟨rfl, rfl, rfl⟩ := trodAll_nil r0
  obtain rfl : args = #[v0] := by cases args; simp_all
  obtain ⟨rfl, rfl⟩ := trodVars_none hV
  obtain ⟨a0, len0, cap0, rfl⟩ := okWide_slice Tryd.underlying39 (hval 0 39 v0 rfl rfl)
  have k0 := h0
  have lt0 : ∀ x ∈ p0, x.block < W.heap.size := by obtain ⟨m, hm⟩ := k0; exact DataW.trod_lt m _ _ _ hm
  have hform : (a0 = none ∧ len0 = 0 ∧ cap0 = 0) ∨ ∃ (ad : Addr) (zs : List Int), a0 = some ad ∧ len0 ≤ zs.length ∧ len0 ≤ maxLen ∧ (∀ i, i < zs.length → W.cell? (ad.add i) = some (.int .u64 (zs.getD i 0))) ∧ ∀ n ∈ zs, (Lit.int .u64 n).wf = true := by
    obtain ⟨fuel, hf⟩ := h0
    rcases open_ints Tryd.underlying39 Tryd.underlying23 cells23 hf with ⟨hcs, _⟩ | ⟨x, l, c, zs, hcs, _, hl, hm, hz, _, hcell, hwz⟩
    · simp [Value.cells] at hcs
      exact .inl hcs
    · simp [Value.cells] at hcs
      obtain ⟨rfl, rfl, rfl⟩ := hcs
      exact .inr ⟨x, zs, rfl, by rw [hz]; simpa using hl, Nat.le_trans hl hm, hcell, hwz⟩
  clear hA0 hval0
  refine (law a0 len0 cap0 W hform).mono fun e W' ⟨he, bel⟩ => ?_
  subst he
  exact ⟨_, rfl, _, _, _, [], _, [], hW', trodAll_mk1 (shut_bool Tryd.underlying4 _), (trodAll_cons_mk (Below.trod laidOut (by kernel_rfl) (of_decide_eq_true (by kernel_rfl)) k0 bel lt0) trodAll_mk0), rfl, bel.frame _, fun h => by cases h⟩

theorem said : Rows.WordCellsSaid :=
  OpenClaim.holds_of_wide 6 Tryd.f6 rfl rfl rfl rfl rfl rfl rfl ⟨rfl, rfl, rfl, rfl, rfl⟩ rfl rfl rfl rfl rfl (by kernel_rfl) Tryd.func6 (by kernel_rfl)
    (of_decide_eq_true (by kernel_rfl)) (by unfold Func.isWrapper; first | (rw [if_pos (by decide +kernel)]; kernel_rfl) | (rw [if_neg (by decide +kernel)]; exact ⟨rfl, rfl⟩))
    (fun os started H enc _ => lifted os started H enc)
end Go.Proofs.YtlnnnjlmfndlbaaDoor.wordCells
namespace Go.Proofs.YtlnnnjlmfndlbaaDoor
open Go
theorem wordCells_card : Rows.WordCellsCardSaid :=
  Claim7.holds_tied_plain_at .later [] _ _ _ _ wordCells.said (fun _ h => by cases h) (by kernel_rfl) (fun _ h => by cases h) wordCells_row_tie rfl ⟨rfl, rfl⟩ (by kernel_rfl) rfl
    (fun f fn hf hfn => by
      obtain rfl : f = 6 := Option.some.inj ((show Tryd.prog.funcNamed "mudlark/mudlarklaw01.WordCells" = some 6 by kernel_rfl).symm.trans hf) |>.symm
      obtain rfl : fn = Tryd.f6 := (Option.some.inj (Tryd.func6.symm.trans hfn)).symm
      refine ⟨by kernel_rfl, fun j t ht => ?_⟩
      rw [Tryd.params6] at ht
      have hm : t ∈ [39] := by simpa using Array.mem_of_getElem? ht
      have hall : ([39].all fun u => !Tryd.prog.wantsStandIn u) = true := by kernel_rfl
      exact (show Tryd.prog.wantsStandIn t = false by simpa using List.all_eq_true.1 hall t hm))
    (by kernel_rfl)
end Go.Proofs.YtlnnnjlmfndlbaaDoor
