/- For every list of words, in whatever memory, the law ColourLetters returns true and its argument reads as before: the row. -/
import Derived.Test.YtpandcidgmafaaaRows
import Derived.Test.YtpandcidgmafaaaLettersLaw
import Derived.ProofKit
import Derived.OpenShut
import Derived.Below
import Derived.ChangeSame
import Derived.JoinedOf
import Derived.SizedLaws
import Derived.Carry
import Derived.Laws.Entries
namespace Go.Proofs.Ytpandcidgmafaaa.colourLetters
open Go Go.ChangeShapes Go.WideShapes Go.ChangeAt Go.WideMaps Go.WideElems Go.RowKit
theorem own : ownKnob Try.prog.godebug = none := by kernel_rfl
theorem laidOut : laidOutB Try.prog = true := by kernel_rfl
theorem cellsWord : Try.prog.cellsOf 33 = 1 := by kernel_rfl
theorem natsOf (zs : List Int) (h : ∀ n ∈ zs, (Lit.int .u64 n).wf = true) : ∃ us : List Nat, us.length = zs.length ∧ ∀ j, j < zs.length → ((us.getD j 0 : Nat) : Int) = zs.getD j 0 := by
  refine ⟨zs.map fun n => n.toNat, by simp, fun j hj => ?_⟩
  have hb := bounds_u64 (h zs[j] (List.getElem_mem hj))
  simp only [List.getD, List.getElem?_map, List.getElem?_eq_getElem hj, Option.map_some, Option.getD_some]
  omega
/-- The law at a slice value that was read. -/
theorem law (a : Option Addr) (len cap : Nat) (W : World) (h : (a = none ∧ len = 0 ∧ cap = 0) ∨ ∃ (ad : Addr) (zs : List Int), a = some ad ∧ len ≤ zs.length ∧ len ≤ maxLen ∧ (∀ i, i < zs.length → W.cell? (ad.add i) = some (.int .u64 (zs.getD i 0))) ∧ ∀ n ∈ zs, (Lit.int .u64 n).wf = true) :
    Calls Try.prog 3 #[.slice a len cap] W fun e w' => e = .returned (.bool true) ∧ Below W.heap.size W w' := by
  rcases h with ⟨rfl, rfl, rfl⟩ | ⟨ad, zs, rfl, hlz, hm, hc, hw⟩
  · exact law_short none 0 [] (by decide) W (.inl rfl)
  · by_cases h0 : len = 0
    · subst h0; exact law_short (some ad) cap [] (by decide) W (.inl rfl)
    · by_cases hl : 60 < len
      · exact law_long _ _ _ hl (by unfold maxLen at hm; omega) W
      · obtain ⟨us, hul, hu⟩ := natsOf zs hw
        obtain ⟨b, off, rfl, hc'⟩ := ints_at hc (show 0 < zs.length by omega)
        have hb : b < W.heap.size := by
          have := hc' 0 (by omega)
          rcases Nat.lt_or_ge b W.heap.size with h' | h'
          · exact h'
          · simp [World.cell?, Array.getElem?_eq_none h'] at this
        have hlen : (us.take len).length = len := by rw [List.length_take]; omega
        have := law_short (some ⟨b, off, none⟩) cap (us.take len) (by omega) W (.inr ⟨b, off, rfl, hb, fun j hj => by
          rw [hlen] at hj
          rw [hc' j (by omega), ← hu j (by omega)]
          simp [List.getD, List.getElem?_take_of_lt hj]⟩)
        rw [hlen] at this
        exact this
set_option maxRecDepth 100000 in
theorem lifted (os : Os) (started : os.Started) (H : Type) (enc : TypeId × Value → H) :
    ReturnsInHanded {} Try.checked os 3 .any (Rows.colourLettersSpec.pre6 enc Try.prog Try.f3 [] false)
      (Rows.colourLettersSpec.post enc Try.prog Try.f3 false true false false) := by
  refine returnsInHanded_of_change (C := Try.checked) own started (by kernel_rfl) Try.func3
    (ChangeSpec.witness6 (enc := enc) (C := Try.checked) false ⟨#[], #[.slice none 0 0], []⟩ 8 (by kernel_rfl) (by kernel_rfl) (by kernel_rfl) (by kernel_rfl)) ?_
  intro W base args ds gs before hval0 hW _ _
  have hval : ∀ (j : Nat) t v, Try.f3.params[j]? = some t → args[j]? = some v → Value.okWide Try.prog W .any base t v := hval0
  have hW' := hW
  obtain ⟨p, q, hA0, hV, rfl, hfz, hnd⟩ := hW
  have hA : DataW.TrodAll enc Try.prog W 0 (fun _ => true) true Try.f3.params.toList args.toList ds p := hA0
  rw [Try.params3] at hA hval
  obtain ⟨v0, vs0, d0, ds0, p0, q0, hargs, rfl, rfl, h0, r0⟩ := trodAll_cons hA
  obtain ⟨rfl, rfl, rfl⟩ := trodAll_nil r0
  obtain rfl : args = #[v0] := by cases args; simp_all
  obtain ⟨rfl, rfl⟩ := trodVars_none hV
  obtain ⟨a0, len0, cap0, rfl⟩ := okWide_slice Try.underlying22 (hval 0 22 v0 rfl rfl)
  have k0 := h0
  have lt0 : ∀ x ∈ p0, x.block < W.heap.size := by obtain ⟨m, hm⟩ := k0; exact DataW.trod_lt m _ _ _ hm
  have hform : (a0 = none ∧ len0 = 0 ∧ cap0 = 0) ∨ ∃ (ad : Addr) (zs : List Int), a0 = some ad ∧ len0 ≤ zs.length ∧ len0 ≤ maxLen ∧ (∀ i, i < zs.length → W.cell? (ad.add i) = some (.int .u64 (zs.getD i 0))) ∧ ∀ n ∈ zs, (Lit.int .u64 n).wf = true := by
    obtain ⟨fuel, hf⟩ := h0
    rcases open_ints Try.underlying22 Try.underlying33 cellsWord hf with ⟨hcs, _⟩ | ⟨x, l, c, zs, hcs, _, hl, hm, hz, _, hcell, hwz⟩
    · simp [Value.cells] at hcs
      exact .inl hcs
    · simp [Value.cells] at hcs
      obtain ⟨rfl, rfl, rfl⟩ := hcs
      exact .inr ⟨x, zs, rfl, by rw [hz]; simpa using hl, Nat.le_trans hl hm, hcell, hwz⟩
  clear hA0 hval0
  refine (law a0 len0 cap0 W hform).mono fun e W' ⟨he, bel⟩ => ?_
  subst he
  exact ⟨_, rfl, _, _, _, [], _, [], hW', trodAll_mk1 (shut_bool Try.underlying4 _), (trodAll_cons_mk (Below.trod laidOut (by kernel_rfl) (of_decide_eq_true (by kernel_rfl)) k0 bel lt0) trodAll_mk0), rfl, bel.frame _, fun h => by cases h⟩
theorem said : Rows.ColourLettersSaid :=
  OpenClaim.holds_of_wide 3 Try.f3 rfl rfl rfl rfl rfl rfl rfl ⟨rfl, rfl, rfl, rfl, rfl⟩ rfl rfl rfl rfl rfl (by kernel_rfl) Try.func3 (by kernel_rfl)
    (of_decide_eq_true (by kernel_rfl)) (by unfold Func.isWrapper; first | (rw [if_pos (by decide +kernel)]; kernel_rfl) | (rw [if_neg (by decide +kernel)]; exact ⟨rfl, rfl⟩))
    (fun os started H enc _ => lifted os started H enc)
end Go.Proofs.Ytpandcidgmafaaa.colourLetters
