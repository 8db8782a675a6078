/- Laid together: Cfg, Frame. -/
import Derived.Test.YthdcapkchjamoaaDoorProg
import Derived.WalkKit
import Derived.WalkSmall
import Derived.IntWalk
import Derived.BigCall
import Derived.Lib.Hide
import Derived.Test.YthdcapkchjamoaaDoorCards
import Derived.Test.YthdcapkchjamoaaDoorTie
import Derived.ProofKit
import Derived.LaidMore
import Derived.Lay
import Derived.OpenShut
import Derived.HandedShaped
import Derived.Shelf.Vars
import Derived.Stop.Joined
import Derived.Lib.LaidTab
import Derived.Lib.SmallJoins
import Derived.Below
import Derived.ChangeSame
/- Package config's numbers, Check and sum: for every configuration whether it is right; for a few small numbers their sum; of what was there nothing has turned. -/
namespace Go.Proofs.YthdcapkchjamoaaDoor
open Go Go.RowKit
set_option maxRecDepth 100000

/-- A configuration is right. -/
def Right (a b c d : Int) : Prop := 2 ≤ a ∧ a ≤ 4096 ∧ 1 ≤ b ∧ b ≤ 63 ∧ 1 ≤ c ∧ c ≤ 64 ∧ 0 ≤ d ∧ d ≤ 64
/-- The table of spans, as its text lays it. -/
def SpansAt (w : World) : Prop :=
  (w.cell? ⟨0, 0, none⟩ = some (.string ⟨#[99, 101, 108, 108, 115]⟩) ∧ w.cell? ⟨0, 1, none⟩ = some (.int .i64 2) ∧ w.cell? ⟨0, 2, none⟩ = some (.int .i64 4096)) ∧
  (w.cell? ⟨0, 3, none⟩ = some (.string ⟨#[109, 117, 116, 115]⟩) ∧ w.cell? ⟨0, 4, none⟩ = some (.int .i64 1) ∧ w.cell? ⟨0, 5, none⟩ = some (.int .i64 63)) ∧
  (w.cell? ⟨0, 6, none⟩ = some (.string ⟨#[114, 101, 103, 115]⟩) ∧ w.cell? ⟨0, 7, none⟩ = some (.int .i64 1) ∧ w.cell? ⟨0, 8, none⟩ = some (.int .i64 64)) ∧
  (w.cell? ⟨0, 9, none⟩ = some (.string ⟨#[103, 108, 111, 98, 115]⟩) ∧ w.cell? ⟨0, 10, none⟩ = some (.int .i64 0) ∧ w.cell? ⟨0, 11, none⟩ = some (.int .i64 64))
theorem lt_of_cell {w : World} {b off : Nat} {v : Value} (h : w.cell? ⟨b, off, none⟩ = some v) : b < w.heap.size := by
  rcases Nat.lt_or_ge b w.heap.size with h' | h'
  · exact h'
  · simp [World.cell?, Array.getElem?_eq_none h'] at h
theorem SpansAt.below {w w' : World} (h : SpansAt w) (hb : Below w.heap.size w w') : SpansAt w' := by
  have hl := lt_of_cell h.1.1
  have key : ∀ j v, w.cell? ⟨0, j, none⟩ = some v → w'.cell? ⟨0, j, none⟩ = some v := fun j v e => (hb.cell (p := ⟨_, j, none⟩) hl).trans e
  obtain ⟨⟨a1, a2, a3⟩, ⟨b1, b2, b3⟩, ⟨c1, c2, c3⟩, ⟨d1, d2, d3⟩⟩ := h
  exact ⟨⟨key _ _ a1, key _ _ a2, key _ _ a3⟩, ⟨key _ _ b1, key _ _ b2, key _ _ b3⟩, ⟨key _ _ c1, key _ _ c2, key _ _ c3⟩, ⟨key _ _ d1, key _ _ d2, key _ _ d3⟩⟩

/-- A block behind the heap. -/
theorem below_new (w : World) (o : Obj) : Below w.heap.size w (w.alloc o) := (Below.refl _ w).alloc (Nat.le_refl _) _
theorem below_on {w w' : World} (h : Below w.heap.size w w') (o : Obj) : Below w.heap.size w (w'.alloc o) := h.trans ((below_new w' o).mono h.size)
theorem belowOn {w w1 w2 : World} (h : Below w.heap.size w w1) (h2 : Below w1.heap.size w1 w2) : Below w.heap.size w w2 := h.trans (h2.mono h.size)
theorem numbers_c (a b c d : Int) (w : World) :
    Calls Tryd.prog 65 #[.agg #[.int .i64 a, .int .i64 b, .int .i64 c, .int .i64 d]] w fun e w' => e = .returned (.agg #[.int .i64 a, .int .i64 b, .int .i64 c, .int .i64 d]) ∧ Below w.heap.size w w' := by
  go_enter Tryd.func65, Tryd.ntmps65
  go_wp2
  refine bodyPost_ret (v := .agg #[.int .i64 a, .int .i64 b, .int .i64 c, .int .i64 d]) (by simp [results, Tryd.f65, go_sem]) rfl ?_
  exact ⟨rfl, below_on (below_new _ _) _⟩
theorem index0 (a b c d : Int) (W : World) : (Instr.index 109 (.agg #[.int .i64 a, .int .i64 b, .int .i64 c, .int .i64 d]) (.int .i64 0)).run Tryd.prog W = .ok (.int .i64 a) W := by kernel_rfl
theorem index1 (a b c d : Int) (W : World) : (Instr.index 109 (.agg #[.int .i64 a, .int .i64 b, .int .i64 c, .int .i64 d]) (.int .i64 1)).run Tryd.prog W = .ok (.int .i64 b) W := by kernel_rfl
theorem index2 (a b c d : Int) (W : World) : (Instr.index 109 (.agg #[.int .i64 a, .int .i64 b, .int .i64 c, .int .i64 d]) (.int .i64 2)).run Tryd.prog W = .ok (.int .i64 c) W := by kernel_rfl
theorem index3 (a b c d : Int) (W : World) : (Instr.index 109 (.agg #[.int .i64 a, .int .i64 b, .int .i64 c, .int .i64 d]) (.int .i64 3)).run Tryd.prog W = .ok (.int .i64 d) W := by kernel_rfl
/-- How far Check is: the numbers ahead of k are right. -/
def rightTo (a b c d : Int) (k : Nat) : Prop := (0 < k → 2 ≤ a ∧ a ≤ 4096) ∧ (1 < k → 1 ≤ b ∧ b ≤ 63) ∧ (2 < k → 1 ≤ c ∧ c ≤ 64) ∧ (3 < k → 0 ≤ d ∧ d ≤ 64)
set_option maxHeartbeats 3200000 in
theorem check_any (a b c d : Int) (w : World) (hS : SpansAt w) :
    Calls Tryd.prog 45 #[.agg #[.int .i64 a, .int .i64 b, .int .i64 c, .int .i64 d]] w fun e w' => ∃ r : Int, e = .returned (.int .i64 r) ∧ (Right a b c d ∧ r = 0 ∨ ¬ Right a b c d ∧ r = 2) ∧ Below w.heap.size w w' := by
  have HS := Lib.hid hS; clear hS
  have HW := Lib.hid (below_new w (.cells #[.int .i64 a, .int .i64 b, .int .i64 c, .int .i64 d] 23))
  go_enter Tryd.func45, Tryd.ntmps45
  go_wp2_with fail
  refine (numbers_c a b c d _).mono ?_
  rintro e W ⟨rfl, hW⟩
  have hB := belowOn HW.out hW
  have HS1 := Lib.hid (HS.out.below hB)
  have HB := Lib.hid hB
  clear hW hB HS HW
  go_wp2_with fail
  obtain ⟨⟨a1, a2, a3⟩, ⟨b1, b2, b3⟩, ⟨c1, c2, c3⟩, ⟨d1, d2, d3⟩⟩ := HS1.out
  have i0 := index0 a b c d; have i1 := index1 a b c d; have i2 := index2 a b c d; have i3 := index3 a b c d
  go_loop [7] (fun vi => ∃ k : Nat, vi = .int .i64 k ∧ k ≤ 4 ∧ Hid (rightTo a b c d k)) (fun vi => 4 - (intOf vi).toNat)
  case atStart => exact ⟨0, rfl, by omega, Lib.hid ⟨by omega, by omega, by omega, by omega⟩⟩
  case round =>
    obtain ⟨k, rfl, hk, HR⟩ := hrel
    obtain rfl | rfl | rfl | rfl | rfl : k = 0 ∨ k = 1 ∨ k = 2 ∨ k = 3 ∨ k = 4 := by omega
    · by_cases h1 : a < 2
      · have HN : Hid (¬ Right a b c d) := Lib.hid (fun h => by unfold Right at h; omega)
        clear HR HS1
        go_wp2
        go_ret
        exact ⟨2, rfl, .inr ⟨HN.out, rfl⟩, HB.out⟩
      · by_cases h2 : 4096 < a
        · have HN : Hid (¬ Right a b c d) := Lib.hid (fun h => by unfold Right at h; omega)
          clear HR HS1
          go_wp2
          go_ret
          exact ⟨2, rfl, .inr ⟨HN.out, rfl⟩, HB.out⟩
        · have HN : Hid (rightTo a b c d 1) := Lib.hid (by have := HR.out; unfold rightTo at *; omega)
          clear HR HS1
          go_wp2
          go_round
          case rel => exact ⟨1, by go_num, by omega, HN⟩
          case measure => simp [intOf]
    · by_cases h1 : b < 1
      · have HN : Hid (¬ Right a b c d) := Lib.hid (fun h => by unfold Right at h; omega)
        clear HR HS1
        go_wp2
        go_ret
        exact ⟨2, rfl, .inr ⟨HN.out, rfl⟩, HB.out⟩
      · by_cases h2 : 63 < b
        · have HN : Hid (¬ Right a b c d) := Lib.hid (fun h => by unfold Right at h; omega)
          clear HR HS1
          go_wp2
          go_ret
          exact ⟨2, rfl, .inr ⟨HN.out, rfl⟩, HB.out⟩
        · have HN : Hid (rightTo a b c d 2) := Lib.hid (by have := HR.out; unfold rightTo at *; omega)
          clear HR HS1
          go_wp2
          go_round
          case rel => exact ⟨2, by go_num, by omega, HN⟩
          case measure => simp [intOf]
    · by_cases h1 : c < 1
      · have HN : Hid (¬ Right a b c d) := Lib.hid (fun h => by unfold Right at h; omega)
        clear HR HS1
        go_wp2
        go_ret
        exact ⟨2, rfl, .inr ⟨HN.out, rfl⟩, HB.out⟩
      · by_cases h2 : 64 < c
        · have HN : Hid (¬ Right a b c d) := Lib.hid (fun h => by unfold Right at h; omega)
          clear HR HS1
          go_wp2
          go_ret
          exact ⟨2, rfl, .inr ⟨HN.out, rfl⟩, HB.out⟩
        · have HN : Hid (rightTo a b c d 3) := Lib.hid (by have := HR.out; unfold rightTo at *; omega)
          clear HR HS1
          go_wp2
          go_round
          case rel => exact ⟨3, by go_num, by omega, HN⟩
          case measure => simp [intOf]
    · by_cases h1 : d < 0
      · have HN : Hid (¬ Right a b c d) := Lib.hid (fun h => by unfold Right at h; omega)
        clear HR HS1
        go_wp2
        go_ret
        exact ⟨2, rfl, .inr ⟨HN.out, rfl⟩, HB.out⟩
      · by_cases h2 : 64 < d
        · have HN : Hid (¬ Right a b c d) := Lib.hid (fun h => by unfold Right at h; omega)
          clear HR HS1
          go_wp2
          go_ret
          exact ⟨2, rfl, .inr ⟨HN.out, rfl⟩, HB.out⟩
        · have HN : Hid (rightTo a b c d 4) := Lib.hid (by have := HR.out; unfold rightTo at *; omega)
          clear HR HS1
          go_wp2
          go_round
          case rel => exact ⟨4, by go_num, by omega, HN⟩
          case measure => simp [intOf]
    · have HN : Hid (Right a b c d) := Lib.hid (by have := HR.out; unfold rightTo at this; unfold Right; omega)
      clear HR HS1
      go_wp2
      go_ret
      exact ⟨0, rfl, .inl ⟨HN.out, rfl⟩, HB.out⟩
theorem check_right (a b c d : Int) (hr : Right a b c d) (w : World) (hS : SpansAt w) :
    Calls Tryd.prog 45 #[.agg #[.int .i64 a, .int .i64 b, .int .i64 c, .int .i64 d]] w fun e w' => e = .returned (.int .i64 0) ∧ Below w.heap.size w w' :=
  (check_any a b c d w hS).mono fun e w' ⟨r, he, hx, hb⟩ => by
    rcases hx with ⟨_, rfl⟩ | ⟨hn, _⟩
    · exact ⟨he, hb⟩
    · exact absurd hr hn
theorem check_wrong (a b c d : Int) (hr : ¬ Right a b c d) (w : World) (hS : SpansAt w) :
    Calls Tryd.prog 45 #[.agg #[.int .i64 a, .int .i64 b, .int .i64 c, .int .i64 d]] w fun e w' => e = .returned (.int .i64 2) ∧ Below w.heap.size w w' :=
  (check_any a b c d w hS).mono fun e w' ⟨r, he, hx, hb⟩ => by
    rcases hx with ⟨hn, _⟩ | ⟨_, rfl⟩
    · exact absurd hn hr
    · exact ⟨he, hb⟩
/- sum -/
def sumTo (zs : List Int) (k : Nat) : Int := (zs.take k).sum
theorem sumTo_next (zs : List Int) (k : Nat) (h : k < zs.length) : sumTo zs (k + 1) = sumTo zs k + zs.getD k 0 := by
  unfold sumTo
  rw [List.take_succ_eq_append_getElem h, List.sum_append]
  simp [List.getD, List.getElem?_eq_getElem h]
theorem sumTo_le (zs : List Int) (hz : ∀ x ∈ zs, 0 ≤ x ∧ x ≤ 100000) (k : Nat) : 0 ≤ sumTo zs k ∧ sumTo zs k ≤ 100000 * (k : Int) := by
  induction k with
  | zero => simp [sumTo]
  | succ k ih =>
    by_cases h : k < zs.length
    · rw [sumTo_next zs k h]
      have := hz (zs.getD k 0) (by simp [List.getD, List.getElem?_eq_getElem h])
      omega
    · have : sumTo zs (k + 1) = sumTo zs k := by
        unfold sumTo
        rw [List.take_of_length_le (by omega), List.take_of_length_le (by omega)]
      rw [this]; omega
theorem sum_c (zs : List Int) (hl : zs.length ≤ 4) (hz : ∀ x ∈ zs, 0 ≤ x ∧ x ≤ 100000) (b cap : Nat) (w : World) (hr : ∀ j, j < zs.length → w.cell? ⟨b, j, none⟩ = some (.int .i64 (zs.getD j 0))) :
    Calls Tryd.prog 66 #[.slice (some ⟨b, 0, none⟩) zs.length cap] w fun e w' => e = .returned (.int .i64 zs.sum) ∧ w = w' := by
  have HZ := Lib.hid hz; have HR := Lib.hid hr; clear hz hr
  go_enter Tryd.func66, Tryd.ntmps66
  go_wp2
  go_loop [3, 8] (fun vs vi => ∃ (k : Nat) (s : Int), vi = .int .i64 k ∧ k ≤ zs.length ∧ vs = .int .i64 s ∧ 0 ≤ s ∧ s ≤ 400000 ∧ Hid (s = sumTo zs k)) (fun _ vi => zs.length - (intOf vi).toNat)
  case atStart => exact ⟨0, 0, rfl, Nat.zero_le _, rfl, by omega, by omega, Lib.hid (by simp [sumTo])⟩
  case round =>
    obtain ⟨k, s, rfl, hk, rfl, h0, h1, HE⟩ := hrel
    by_cases hlt : k < zs.length
    · have hc := HR.out k hlt
      have hle := sumTo_le zs HZ.out (k + 1)
      have hx := HZ.out (zs.getD k 0) (by simp [List.getD, List.getElem?_eq_getElem hlt])
      have HN : Hid (s + zs.getD k 0 = sumTo zs (k + 1)) := Lib.hid (by rw [sumTo_next zs k hlt, ← HE.out])
      rw [← HN.out] at hle
      generalize zs.getD k 0 = x at *
      have hle1 : 0 ≤ s + x := hle.1
      have hle2 : s + x ≤ 400000 := by omega
      clear hle HE
      go_wp2
      go_round
      case rel => exact ⟨k + 1, s + x, by go_num, by omega, by go_num, by omega, by omega, HN⟩
      case measure => simp [intOf]; omega
    · obtain rfl : k = zs.length := by omega
      have HN : Hid (s = zs.sum) := Lib.hid (by rw [HE.out]; simp [sumTo])
      clear HE
      go_wp2
      go_ret
      refine ⟨?_, rfl⟩
      rw [← HN.out]; rfl
end Go.Proofs.YthdcapkchjamoaaDoor
/- Small lemmas that the cards of this seat share: the row's last step where the world has only grown; the row's wrap that hands on the world's shape too; what the table of spans holds, cell for cell; a configuration as data. -/
namespace Go.Proofs.YthdcapkchjamoaaDoor
open Go Go.RowKit Go.WideShapes Go.ChangeShapes
section
variable {H : Type} {enc : TypeId × Value → H} {P : Program}
/-- The row's last step where the world has only grown. -/
theorem post_of_below {f : Func} {s : ChangeSpec} {apart fresh handsOn again : Bool} {W W' : World} {args : Array Value} {v : Value} {ds gs : List (DataW H)} {before pa pv : List MemPlace}
    (hW : DataW.Whole enc P f.params.toList s.vars apart W args.toList ds gs before)
    (hres : ∀ (b : Nat) (sp : Nat → Bool) (hd : Bool), DataW.TrodAll enc P W' b sp hd f.resultTypes.toList (v.resultList f.resultTypes.size) (s.fn H (ds ++ gs)).results [])
    (hargs : ∀ sp : Nat → Bool, (∀ p ∈ before, sp p.block = true) → DataW.TrodAll enc P W' 0 sp true f.params.toList args.toList (s.fn H (ds ++ gs)).args pa)
    (hvars : ∀ sp : Nat → Bool, (∀ p ∈ before, sp p.block = true) → DataW.TrodVars enc P W' sp s.vars (s.fn H (ds ++ gs)).vars pv)
    (hps : before = pa ++ pv) (hb : Below W.heap.size W W')
    (hok : ∀ (j : Nat) (t : TypeId) (r : Value), f.resultTypes[j]? = some t → (v.resultList f.resultTypes.size)[j]? = some r → Value.okWide P W' .any 0 t r) :
    s.post enc P f apart fresh handsOn again W args v W' := by
  have hlt : ∀ p ∈ before, p.block < W.heap.size := fun p hp => hW.lt p hp
  have hold : ∀ p ∈ before, (fun b => decide (b < W.heap.size)) p.block = true := fun p hp => by simpa using hlt p hp
  refine ⟨ds, gs, before, [], pa, pv, hW, hres _ _ _, hargs _ hold, hvars _ hold, World.keptBut_mono (fun p hp => ⟨hp, ?_⟩) (hb.frame (· ∈ before)), fun _ => ?_⟩
  · rw [hps, List.mem_append] at hp
    exact Or.inr hp
  · obtain ⟨_, _, _, _, _, hz, hn⟩ := hW
    refine ⟨hok, _, _, ([] ++ pa) ++ pv, ⟨[] ++ pa, pv, trodAll_append (hargs _ (fun _ _ => rfl)) (hres _ _ _), hvars _ (fun _ _ => rfl), rfl, ?_, ?_⟩, ?_⟩
    · intro b off hp
      have hin : MemPlace.cell b off ∈ before := by rw [hps]; simpa using hp
      rw [hb.frozen (hlt _ hin)]
      exact hz b off hin
    · intro ha
      have := hn ha
      rw [hps] at this
      simpa using this
    · intro p hp _
      rw [hps]
      simpa using hp
/-- The wrap of a plain row that lists variables: the walk is handed what they hold, and the world's shape. -/
theorem wrap_laid {C : Checked} {os : Os} {f : FuncId} {fn : Func} {s : ChangeSpec} {apart fresh handsOn again : Bool} {L : List (String × DataW Unit)}
    (own : ownKnob C.prog.godebug = none) (started : os.Started) (noInit : C.prog.inits.idxOf? f = none) (hfn : C.prog.funcs[f]? = some fn)
    (witness : ∃ (w : World) (tape : Tape) (i : Input), w.os = os ∧ (w.forCall tape i).Shaped C.prog ∧ i.vars = [] ∧ Input.okWide C.prog (w.forCall tape i) .any w.heap.size f i ∧
      ((s.pre enc C.prog fn [] apart (w.forCall tape i).memory i.args ∧ laidMetH C.prog L (w.forCall tape i).memory) ∧ sizedMet enc C.prog fn (OpenSpec.ofChange s) apart (w.forCall tape i).memory i.args) ∧ Assume.holds {} C.prog (lone (Frame.enter C.prog f i.args .normal) [] (w.forCall tape i)))
    (walk : ∀ (W : World) (base : Nat) (args : Array Value) (ds gs : List (DataW H)) (before : List MemPlace), (∀ (j : Nat) t v, fn.params[j]? = some t → args[j]? = some v → Value.okWide C.prog W .any base t v) →
      DataW.Whole enc C.prog fn.params.toList s.vars apart W args.toList ds gs before → laidMetH C.prog L W → W.ShapedOpen C.prog →
      Calls C.prog f args W fun e W' => ∃ v, e = .returned v ∧ s.post enc C.prog fn apart fresh handsOn again W args v W') :
    ReturnsInHanded {} C os f .any (fun w args => (s.pre enc C.prog fn [] apart w args ∧ laidMetH C.prog L w) ∧ sizedMet enc C.prog fn (OpenSpec.ofChange s) apart w args) (s.post enc C.prog fn apart fresh handsOn again) := by
  refine returnsInHanded_of_calls own started noInit witness ?_
  intro w tape i _ hsh _ hok hpre _
  obtain ⟨_, _, _, fn', hfn', _, _, _, _, hval⟩ := hok
  obtain rfl : fn' = fn := Option.some.inj (hfn'.symm.trans hfn)
  obtain ⟨⟨⟨ds, gs, before, hw, _⟩, hx⟩, _⟩ := hpre
  refine (walk (w.forCall tape i) w.heap.size i.args ds gs before hval (DataW.Whole.of_heap (w' := w.forCall tape i) (by rfl) hw) (hx.of_heap (by rfl)) hsh).mono fun e W' ⟨v, he, hp⟩ => ?_
  subst he
  exact ChangeSpec.post_blind hp
/-- A struct of a text and two numbers, read. -/
theorem span_cells {w : World} {bs : Nat} {sp : Nat → Bool} {held : Bool} {fuel : Nat} {t ts ti : TypeId} {f0 f1 f2 : Field} {cs : List Value} {z : List UInt8} {a b : Int} {x : DataW H × List MemPlace}
    (ht : P.underlying t = some (.struct #[f0, f1, f2])) (e0 : f0.type = ts ∧ f0.offset = 0) (e1 : f1.type = ti ∧ f1.offset = 1) (e2 : f2.type = ti ∧ f2.offset = 2) (hs : P.underlying ts = some .string) (hi : P.underlying ti = some (.int .i64))
    (cS : P.cellsOf ts = 1) (cI : P.cellsOf ti = 1) (h : DataW.trod enc P w bs sp held fuel t cs = some x) (hx : x.1 = .agg [.lit (.string z), .lit (.int .i64 a), .lit (.int .i64 b)]) :
    cs[0]? = some (.string ⟨z.toArray⟩) ∧ cs[1]? = some (.int .i64 a) ∧ cs[2]? = some (.int .i64 b) := by
  obtain ⟨xs, n, _, rfl, _, hl, hf⟩ := DataW.trod_struct ht h
  have g0 := hf 0 f0 rfl
  have g1 := hf 1 f1 rfl
  have g2 := hf 2 f2 rfl
  simp only [e0.1, e0.2, e1.1, e1.2, e2.1, e2.2, cS, cI] at g0 g1 g2
  simp only [DataW.agg.injEq] at hx
  match xs, hx with
  | [y0, y1, y2], hx =>
    simp only [List.map_cons, List.map_nil, List.cons.injEq, and_true] at hx
    obtain ⟨h0, h1, h2⟩ := hx
    obtain ⟨s, c0, d0, _⟩ := DataW.trod_string hs (g0.trans rfl)
    obtain ⟨p, c1, d1, _⟩ := DataW.trod_int hi (g1.trans rfl)
    obtain ⟨q, c2, d2, _⟩ := DataW.trod_int hi (g2.trans rfl)
    rw [d0] at h0; rw [d1] at h1; rw [d2] at h2
    simp only [DataW.lit.injEq, Lit.string.injEq, Lit.int.injEq, true_and] at h0 h1 h2
    subst h1 h2
    have k0 := congrArg (·[0]?) c0
    have k1 := congrArg (·[0]?) c1
    have k2 := congrArg (·[0]?) c2
    simp [List.getElem?_drop] at k0 k1 k2
    refine ⟨?_, k1, k2⟩
    rw [k0, ← h0]
end
theorem own : ownKnob Tryd.prog.godebug = none := by kernel_rfl
theorem cellsString : Tryd.prog.cellsOf 9 = 1 := by kernel_rfl
theorem cellsInt : Tryd.prog.cellsOf 3 = 1 := by kernel_rfl
theorem cellsSpan : Tryd.prog.cellsOf 112 = 3 := by kernel_rfl
theorem gSpans : Tryd.prog.globalNamed "mudlark/config.spans" = some 0 := by kernel_rfl
theorem gSpansType : (Tryd.prog.globals[0]?).map (·.type) = some 113 := by kernel_rfl
theorem spansAt {W : World} {rest : List (String × DataW Unit)} (h : laidMet Tryd.prog (("mudlark/config.spans", Rows.laid_mudlark_config_spans) :: rest) W) : SpansAt W := by
  obtain ⟨ps, ⟨g', t', cs, fuel, p, q, hg', ht', hvar, hd, _, _⟩, _⟩ := h
  obtain rfl := Option.some.inj (gSpans.symm.trans hg')
  obtain rfl := Option.some.inj (gSpansType.symm.trans ht')
  obtain ⟨xs, m, _, ex, _, hl, hel⟩ := DataW.trod_array Tryd.underlying113 hd
  have e3 : xs.map (·.1) = _ := (DataW.agg.inj (Prod.mk.inj ex).1).symm
  match xs, e3 with
  | [y0, y1, y2, y3], e3 =>
    simp only [List.map_cons, List.map_nil, List.cons.injEq, and_true] at e3
    obtain ⟨h0, h1, h2, h3⟩ := e3
    have hc := fun i => World.var?_cell gSpans hvar i
    have r0 := span_cells Tryd.underlying112 ⟨rfl, rfl⟩ ⟨rfl, rfl⟩ ⟨rfl, rfl⟩ Tryd.underlying9 Tryd.underlying3 cellsString cellsInt ((hel 0 (by omega)).trans rfl) h0
    have r1 := span_cells Tryd.underlying112 ⟨rfl, rfl⟩ ⟨rfl, rfl⟩ ⟨rfl, rfl⟩ Tryd.underlying9 Tryd.underlying3 cellsString cellsInt ((hel 1 (by omega)).trans rfl) h1
    have r2 := span_cells Tryd.underlying112 ⟨rfl, rfl⟩ ⟨rfl, rfl⟩ ⟨rfl, rfl⟩ Tryd.underlying9 Tryd.underlying3 cellsString cellsInt ((hel 2 (by omega)).trans rfl) h2
    have r3 := span_cells Tryd.underlying112 ⟨rfl, rfl⟩ ⟨rfl, rfl⟩ ⟨rfl, rfl⟩ Tryd.underlying9 Tryd.underlying3 cellsString cellsInt ((hel 3 (by omega)).trans rfl) h3
    simp only [cellsSpan, List.getElem?_take, List.getElem?_drop] at r0 r1 r2 r3
    simp at r0 r1 r2 r3
    refine ⟨⟨(hc 0).trans ?_, (hc 1).trans ?_, (hc 2).trans ?_⟩, ⟨(hc 3).trans ?_, (hc 4).trans ?_, (hc 5).trans ?_⟩, ⟨(hc 6).trans ?_, (hc 7).trans ?_, (hc 8).trans ?_⟩, ⟨(hc 9).trans ?_, (hc 10).trans ?_, (hc 11).trans ?_⟩⟩
    · exact r0.1
    · exact r0.2.1
    · exact r0.2.2
    · exact r1.1
    · exact r1.2.1
    · exact r1.2.2
    · exact r2.1
    · exact r2.2.1
    · exact r2.2.2
    · exact r3.1
    · exact r3.2.1
    · exact r3.2.2
theorem cellsCfg : Tryd.prog.cellsOf 23 = 4 := by kernel_rfl
section
open Go.Joins Go.Deep
theorem shut_cfg {H : Type} {enc : TypeId × Value → H} {w : World} {bs : Nat} {sp : Nat → Bool} {held : Bool} {a b c d : Int} (h0 : (Lit.int .i64 a).wf = true) (h1 : (Lit.int .i64 b).wf = true) (h2 : (Lit.int .i64 c).wf = true) (h3 : (Lit.int .i64 d).wf = true) :
    DataW.Trod enc Tryd.prog w bs sp held 23 (.agg #[.int .i64 a, .int .i64 b, .int .i64 c, .int .i64 d]) (.agg [.lit (.int .i64 a), .lit (.int .i64 b), .lit (.int .i64 c), .lit (.int .i64 d)]) [] :=
  shut_agg4 Tryd.underlying23 (by kernel_rfl) cellsCfg (field_of_Trod (shut_int Tryd.underlying3 h0) rfl) (field_of_Trod (shut_int Tryd.underlying3 h1) rfl) (field_of_Trod (shut_int Tryd.underlying3 h2) rfl) (field_of_Trod (shut_int Tryd.underlying3 h3) rfl)
end
end Go.Proofs.YthdcapkchjamoaaDoor
