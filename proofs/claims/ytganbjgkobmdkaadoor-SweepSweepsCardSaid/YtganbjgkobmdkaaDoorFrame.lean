/- Small lemmas that the cards of this seat share: the row's last step where the world has only grown; the row's wrap that hands on the world's shape too; what the table of spans holds, cell for cell; a configuration as data. -/
import Derived.Test.YtganbjgkobmdkaaDoorCards
import Derived.Test.YtganbjgkobmdkaaDoorTie
import Derived.Test.YtganbjgkobmdkaaDoorCfg
import Derived.ProofKit
import Derived.LaidMore
import Derived.Lay
import Derived.OpenShut
import Derived.HandedShaped
import Derived.Shelf.Vars
import Derived.Stop.Joined
import Derived.Lib.LaidTab
import Derived.Lib.SmallJoins
import Derived.Below
import Derived.ChangeSame
namespace Go.Proofs.YtganbjgkobmdkaaDoor
open Go Go.RowKit Go.WideShapes Go.ChangeShapes
section
variable {H : Type} {enc : TypeId × Value → H} {P : Program}
/-- The row's last step where the world has only grown. -/
theorem post_of_below {f : Func} {s : ChangeSpec} {apart fresh handsOn again : Bool} {W W' : World} {args : Array Value} {v : Value} {ds gs : List (DataW H)} {before pa pv : List MemPlace}
    (hW : DataW.Whole enc P f.params.toList s.vars apart W args.toList ds gs before)
    (hres : ∀ (b : Nat) (sp : Nat → Bool) (hd : Bool), DataW.TrodAll enc P W' b sp hd f.resultTypes.toList (v.resultList f.resultTypes.size) (s.fn H (ds ++ gs)).results [])
    (hargs : ∀ sp : Nat → Bool, (∀ p ∈ before, sp p.block = true) → DataW.TrodAll enc P W' 0 sp true f.params.toList args.toList (s.fn H (ds ++ gs)).args pa)
    (hvars : ∀ sp : Nat → Bool, (∀ p ∈ before, sp p.block = true) → DataW.TrodVars enc P W' sp s.vars (s.fn H (ds ++ gs)).vars pv)
    (hps : before = pa ++ pv) (hb : Below W.heap.size W W')
    (hok : ∀ (j : Nat) (t : TypeId) (r : Value), f.resultTypes[j]? = some t → (v.resultList f.resultTypes.size)[j]? = some r → Value.okWide P W' .any 0 t r) :
    s.post enc P f apart fresh handsOn again W args v W' := by
  have hlt : ∀ p ∈ before, p.block < W.heap.size := fun p hp => hW.lt p hp
  have hold : ∀ p ∈ before, (fun b => decide (b < W.heap.size)) p.block = true := fun p hp => by simpa using hlt p hp
  refine ⟨ds, gs, before, [], pa, pv, hW, hres _ _ _, hargs _ hold, hvars _ hold, World.keptBut_mono (fun p hp => ⟨hp, ?_⟩) (hb.frame (· ∈ before)), fun _ => ?_⟩
  · rw [hps, List.mem_append] at hp
    exact Or.inr hp
  · obtain ⟨_, _, _, _, _, hz, hn⟩ := hW
    refine ⟨hok, _, _, ([] ++ pa) ++ pv, ⟨[] ++ pa, pv, trodAll_append (hargs _ (fun _ _ => rfl)) (hres _ _ _), hvars _ (fun _ _ => rfl), rfl, ?_, ?_⟩, ?_⟩
    · intro b off hp
      have hin : MemPlace.cell b off ∈ before := by rw [hps]; simpa using hp
      rw [hb.frozen (hlt _ hin)]
      exact hz b off hin
    · intro ha
      have := hn ha
      rw [hps] at this
      simpa using this
    · intro p hp _
      rw [hps]
      simpa using hp
/-- The wrap of a plain row that lists variables: the walk is handed what they hold, and the world's shape. -/
theorem wrap_laid {C : Checked} {os : Os} {f : FuncId} {fn : Func} {s : ChangeSpec} {apart fresh handsOn again : Bool} {L : List (String × DataW Unit)}
    (own : ownKnob C.prog.godebug = none) (started : os.Started) (noInit : C.prog.inits.idxOf? f = none) (hfn : C.prog.funcs[f]? = some fn)
    (witness : ∃ (w : World) (tape : Tape) (i : Input), w.os = os ∧ (w.forCall tape i).Shaped C.prog ∧ i.vars = [] ∧ Input.okWide C.prog (w.forCall tape i) .any w.heap.size f i ∧
      ((s.pre enc C.prog fn [] apart (w.forCall tape i).memory i.args ∧ laidMetH C.prog L (w.forCall tape i).memory) ∧ sizedMet enc C.prog fn (OpenSpec.ofChange s) apart (w.forCall tape i).memory i.args) ∧ Assume.holds {} C.prog (lone (Frame.enter C.prog f i.args .normal) [] (w.forCall tape i)))
    (walk : ∀ (W : World) (base : Nat) (args : Array Value) (ds gs : List (DataW H)) (before : List MemPlace), (∀ (j : Nat) t v, fn.params[j]? = some t → args[j]? = some v → Value.okWide C.prog W .any base t v) →
      DataW.Whole enc C.prog fn.params.toList s.vars apart W args.toList ds gs before → laidMetH C.prog L W → W.ShapedOpen C.prog →
      Calls C.prog f args W fun e W' => ∃ v, e = .returned v ∧ s.post enc C.prog fn apart fresh handsOn again W args v W') :
    ReturnsInHanded {} C os f .any (fun w args => (s.pre enc C.prog fn [] apart w args ∧ laidMetH C.prog L w) ∧ sizedMet enc C.prog fn (OpenSpec.ofChange s) apart w args) (s.post enc C.prog fn apart fresh handsOn again) := by
  refine returnsInHanded_of_calls own started noInit witness ?_
  intro w tape i _ hsh _ hok hpre _
  obtain ⟨_, _, _, fn', hfn', _, _, _, _, hval⟩ := hok
  obtain rfl : fn' = fn := Option.some.inj (hfn'.symm.trans hfn)
  obtain ⟨⟨⟨ds, gs, before, hw, _⟩, hx⟩, _⟩ := hpre
  refine (walk (w.forCall tape i) w.heap.size i.args ds gs before hval (DataW.Whole.of_heap (w' := w.forCall tape i) (by rfl) hw) (hx.of_heap (by rfl)) hsh).mono fun e W' ⟨v, he, hp⟩ => ?_
  subst he
  exact ChangeSpec.post_blind hp
/-- A struct of a text and two numbers, read. -/
theorem span_cells {w : World} {bs : Nat} {sp : Nat → Bool} {held : Bool} {fuel : Nat} {t ts ti : TypeId} {f0 f1 f2 : Field} {cs : List Value} {z : List UInt8} {a b : Int} {x : DataW H × List MemPlace}
    (ht : P.underlying t = some (.struct #[f0, f1, f2])) (e0 : f0.type = ts ∧ f0.offset = 0) (e1 : f1.type = ti ∧ f1.offset = 1) (e2 : f2.type = ti ∧ f2.offset = 2) (hs : P.underlying ts = some .string) (hi : P.underlying ti = some (.int .i64))
    (cS : P.cellsOf ts = 1) (cI : P.cellsOf ti = 1) (h : DataW.trod enc P w bs sp held fuel t cs = some x) (hx : x.1 = .agg [.lit (.string z), .lit (.int .i64 a), .lit (.int .i64 b)]) :
    cs[0]? = some (.string ⟨z.toArray⟩) ∧ cs[1]? = some (.int .i64 a) ∧ cs[2]? = some (.int .i64 b) := by
  obtain ⟨xs, n, _, rfl, _, hl, hf⟩ := DataW.trod_struct ht h
  have g0 := hf 0 f0 rfl
  have g1 := hf 1 f1 rfl
  have g2 := hf 2 f2 rfl
  simp only [e0.1, e0.2, e1.1, e1.2, e2.1, e2.2, cS, cI] at g0 g1 g2
  simp only [DataW.agg.injEq] at hx
  match xs, hx with
  | [y0, y1, y2], hx =>
    simp only [List.map_cons, List.map_nil, List.cons.injEq, and_true] at hx
    obtain ⟨h0, h1, h2⟩ := hx
    obtain ⟨s, c0, d0, _⟩ := DataW.trod_string hs (g0.trans rfl)
    obtain ⟨p, c1, d1, _⟩ := DataW.trod_int hi (g1.trans rfl)
    obtain ⟨q, c2, d2, _⟩ := DataW.trod_int hi (g2.trans rfl)
    rw [d0] at h0; rw [d1] at h1; rw [d2] at h2
    simp only [DataW.lit.injEq, Lit.string.injEq, Lit.int.injEq, true_and] at h0 h1 h2
    subst h1 h2
    have k0 := congrArg (·[0]?) c0
    have k1 := congrArg (·[0]?) c1
    have k2 := congrArg (·[0]?) c2
    simp [List.getElem?_drop] at k0 k1 k2
    refine ⟨?_, k1, k2⟩
    rw [k0, ← h0]
end
theorem own : ownKnob Tryd.prog.godebug = none := by kernel_rfl
theorem cellsString : Tryd.prog.cellsOf 9 = 1 := by kernel_rfl
theorem cellsInt : Tryd.prog.cellsOf 3 = 1 := by kernel_rfl
theorem cellsSpan : Tryd.prog.cellsOf 109 = 3 := by kernel_rfl
theorem gSpans : Tryd.prog.globalNamed "mudlark/config.spans" = some 0 := by kernel_rfl
theorem gSpansType : (Tryd.prog.globals[0]?).map (·.type) = some 110 := by kernel_rfl
theorem spansAt {W : World} {rest : List (String × DataW Unit)} (h : laidMet Tryd.prog (("mudlark/config.spans", Rows.laid_mudlark_config_spans) :: rest) W) : SpansAt W := by
  obtain ⟨ps, ⟨g', t', cs, fuel, p, q, hg', ht', hvar, hd, _, _⟩, _⟩ := h
  obtain rfl := Option.some.inj (gSpans.symm.trans hg')
  obtain rfl := Option.some.inj (gSpansType.symm.trans ht')
  obtain ⟨xs, m, _, ex, _, hl, hel⟩ := DataW.trod_array Tryd.underlying110 hd
  have e3 : xs.map (·.1) = _ := (DataW.agg.inj (Prod.mk.inj ex).1).symm
  match xs, e3 with
  | [y0, y1, y2, y3], e3 =>
    simp only [List.map_cons, List.map_nil, List.cons.injEq, and_true] at e3
    obtain ⟨h0, h1, h2, h3⟩ := e3
    have hc := fun i => World.var?_cell gSpans hvar i
    have r0 := span_cells Tryd.underlying109 ⟨rfl, rfl⟩ ⟨rfl, rfl⟩ ⟨rfl, rfl⟩ Tryd.underlying9 Tryd.underlying3 cellsString cellsInt ((hel 0 (by omega)).trans rfl) h0
    have r1 := span_cells Tryd.underlying109 ⟨rfl, rfl⟩ ⟨rfl, rfl⟩ ⟨rfl, rfl⟩ Tryd.underlying9 Tryd.underlying3 cellsString cellsInt ((hel 1 (by omega)).trans rfl) h1
    have r2 := span_cells Tryd.underlying109 ⟨rfl, rfl⟩ ⟨rfl, rfl⟩ ⟨rfl, rfl⟩ Tryd.underlying9 Tryd.underlying3 cellsString cellsInt ((hel 2 (by omega)).trans rfl) h2
    have r3 := span_cells Tryd.underlying109 ⟨rfl, rfl⟩ ⟨rfl, rfl⟩ ⟨rfl, rfl⟩ Tryd.underlying9 Tryd.underlying3 cellsString cellsInt ((hel 3 (by omega)).trans rfl) h3
    simp only [cellsSpan, List.getElem?_take, List.getElem?_drop] at r0 r1 r2 r3
    simp at r0 r1 r2 r3
    refine ⟨⟨(hc 0).trans ?_, (hc 1).trans ?_, (hc 2).trans ?_⟩, ⟨(hc 3).trans ?_, (hc 4).trans ?_, (hc 5).trans ?_⟩, ⟨(hc 6).trans ?_, (hc 7).trans ?_, (hc 8).trans ?_⟩, ⟨(hc 9).trans ?_, (hc 10).trans ?_, (hc 11).trans ?_⟩⟩
    · exact r0.1
    · exact r0.2.1
    · exact r0.2.2
    · exact r1.1
    · exact r1.2.1
    · exact r1.2.2
    · exact r2.1
    · exact r2.2.1
    · exact r2.2.2
    · exact r3.1
    · exact r3.2.1
    · exact r3.2.2
theorem cellsCfg : Tryd.prog.cellsOf 23 = 4 := by kernel_rfl
section
open Go.Joins Go.Deep
theorem shut_cfg {H : Type} {enc : TypeId × Value → H} {w : World} {bs : Nat} {sp : Nat → Bool} {held : Bool} {a b c d : Int} (h0 : (Lit.int .i64 a).wf = true) (h1 : (Lit.int .i64 b).wf = true) (h2 : (Lit.int .i64 c).wf = true) (h3 : (Lit.int .i64 d).wf = true) :
    DataW.Trod enc Tryd.prog w bs sp held 23 (.agg #[.int .i64 a, .int .i64 b, .int .i64 c, .int .i64 d]) (.agg [.lit (.int .i64 a), .lit (.int .i64 b), .lit (.int .i64 c), .lit (.int .i64 d)]) [] :=
  shut_agg4 Tryd.underlying23 (by kernel_rfl) cellsCfg (field_of_Trod (shut_int Tryd.underlying3 h0) rfl) (field_of_Trod (shut_int Tryd.underlying3 h1) rfl) (field_of_Trod (shut_int Tryd.underlying3 h2) rfl) (field_of_Trod (shut_int Tryd.underlying3 h3) rfl)
end
end Go.Proofs.YtganbjgkobmdkaaDoor
