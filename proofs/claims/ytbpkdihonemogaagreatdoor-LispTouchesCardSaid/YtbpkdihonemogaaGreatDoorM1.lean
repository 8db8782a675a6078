/- Laid together: Cfg, Frame, RangeL, Rounds, CfgRef, Arr4. -/
import Derived.Test.YtbpkdihonemogaaGreatDoorProg
import Derived.WalkKit
import Derived.WalkSmall
import Derived.IntWalk
import Derived.BigCall
import Derived.Lib.Hide
import Derived.Test.YtbpkdihonemogaaGreatDoorCards
import Derived.Test.YtbpkdihonemogaaGreatDoorTie
import Derived.ProofKit
import Derived.LaidMore
import Derived.Lay
import Derived.OpenShut
import Derived.HandedShaped
import Derived.Shelf.Vars
import Derived.Stop.Joined
import Derived.Lib.LaidTab
import Derived.Lib.SmallJoins
import Derived.Below
import Derived.ChangeSame
import Derived.RangeFuncNested
import Derived.RangeFuncBound
import Derived.RangeFuncLeaves
import Derived.Deep.RegionHeld3
import Derived.Deep.DrawnRows
/- Package config's numbers, Check and sum: for every configuration whether it is right; for a few small numbers their sum; of what was there nothing has turned. -/
namespace Go.Proofs.YtbpkdihonemogaaGreatDoor
open Go Go.RowKit
set_option maxRecDepth 100000

/-- A configuration is right. -/
def Right (a b c d : Int) : Prop := 2 ≤ a ∧ a ≤ 4096 ∧ 1 ≤ b ∧ b ≤ 63 ∧ 1 ≤ c ∧ c ≤ 64 ∧ 0 ≤ d ∧ d ≤ 64
/-- The table of spans, as its text lays it. -/
def SpansAt (w : World) : Prop :=
  (w.cell? ⟨0, 0, none⟩ = some (.string ⟨#[99, 101, 108, 108, 115]⟩) ∧ w.cell? ⟨0, 1, none⟩ = some (.int .i64 2) ∧ w.cell? ⟨0, 2, none⟩ = some (.int .i64 4096)) ∧
  (w.cell? ⟨0, 3, none⟩ = some (.string ⟨#[109, 117, 116, 115]⟩) ∧ w.cell? ⟨0, 4, none⟩ = some (.int .i64 1) ∧ w.cell? ⟨0, 5, none⟩ = some (.int .i64 63)) ∧
  (w.cell? ⟨0, 6, none⟩ = some (.string ⟨#[114, 101, 103, 115]⟩) ∧ w.cell? ⟨0, 7, none⟩ = some (.int .i64 1) ∧ w.cell? ⟨0, 8, none⟩ = some (.int .i64 64)) ∧
  (w.cell? ⟨0, 9, none⟩ = some (.string ⟨#[103, 108, 111, 98, 115]⟩) ∧ w.cell? ⟨0, 10, none⟩ = some (.int .i64 0) ∧ w.cell? ⟨0, 11, none⟩ = some (.int .i64 64))
theorem lt_of_cell {w : World} {b off : Nat} {v : Value} (h : w.cell? ⟨b, off, none⟩ = some v) : b < w.heap.size := by
  rcases Nat.lt_or_ge b w.heap.size with h' | h'
  · exact h'
  · simp [World.cell?, Array.getElem?_eq_none h'] at h
theorem SpansAt.below {w w' : World} (h : SpansAt w) (hb : Below w.heap.size w w') : SpansAt w' := by
  have hl := lt_of_cell h.1.1
  have key : ∀ j v, w.cell? ⟨0, j, none⟩ = some v → w'.cell? ⟨0, j, none⟩ = some v := fun j v e => (hb.cell (p := ⟨_, j, none⟩) hl).trans e
  obtain ⟨⟨a1, a2, a3⟩, ⟨b1, b2, b3⟩, ⟨c1, c2, c3⟩, ⟨d1, d2, d3⟩⟩ := h
  exact ⟨⟨key _ _ a1, key _ _ a2, key _ _ a3⟩, ⟨key _ _ b1, key _ _ b2, key _ _ b3⟩, ⟨key _ _ c1, key _ _ c2, key _ _ c3⟩, ⟨key _ _ d1, key _ _ d2, key _ _ d3⟩⟩

/-- A block behind the heap. -/
theorem below_new (w : World) (o : Obj) : Below w.heap.size w (w.alloc o) := (Below.refl _ w).alloc (Nat.le_refl _) _
theorem below_on {w w' : World} (h : Below w.heap.size w w') (o : Obj) : Below w.heap.size w (w'.alloc o) := h.trans ((below_new w' o).mono h.size)
theorem belowOn {w w1 w2 : World} (h : Below w.heap.size w w1) (h2 : Below w1.heap.size w1 w2) : Below w.heap.size w w2 := h.trans (h2.mono h.size)
theorem numbers_c (a b c d : Int) (w : World) :
    Calls Tryz.prog 67 #[.agg #[.int .i64 a, .int .i64 b, .int .i64 c, .int .i64 d]] w fun e w' => e = .returned (.agg #[.int .i64 a, .int .i64 b, .int .i64 c, .int .i64 d]) ∧ Below w.heap.size w w' := by
  go_enter Tryz.func67, Tryz.ntmps67
  go_wp2
  refine bodyPost_ret (v := .agg #[.int .i64 a, .int .i64 b, .int .i64 c, .int .i64 d]) (by simp [results, Tryz.f67, go_sem]) rfl ?_
  exact ⟨rfl, below_on (below_new _ _) _⟩
theorem index0 (a b c d : Int) (W : World) : (Instr.index 112 (.agg #[.int .i64 a, .int .i64 b, .int .i64 c, .int .i64 d]) (.int .i64 0)).run Tryz.prog W = .ok (.int .i64 a) W := by kernel_rfl
theorem index1 (a b c d : Int) (W : World) : (Instr.index 112 (.agg #[.int .i64 a, .int .i64 b, .int .i64 c, .int .i64 d]) (.int .i64 1)).run Tryz.prog W = .ok (.int .i64 b) W := by kernel_rfl
theorem index2 (a b c d : Int) (W : World) : (Instr.index 112 (.agg #[.int .i64 a, .int .i64 b, .int .i64 c, .int .i64 d]) (.int .i64 2)).run Tryz.prog W = .ok (.int .i64 c) W := by kernel_rfl
theorem index3 (a b c d : Int) (W : World) : (Instr.index 112 (.agg #[.int .i64 a, .int .i64 b, .int .i64 c, .int .i64 d]) (.int .i64 3)).run Tryz.prog W = .ok (.int .i64 d) W := by kernel_rfl
/-- How far Check is: the numbers ahead of k are right. -/
def rightTo (a b c d : Int) (k : Nat) : Prop := (0 < k → 2 ≤ a ∧ a ≤ 4096) ∧ (1 < k → 1 ≤ b ∧ b ≤ 63) ∧ (2 < k → 1 ≤ c ∧ c ≤ 64) ∧ (3 < k → 0 ≤ d ∧ d ≤ 64)
set_option maxHeartbeats 3200000 in
theorem check_any (a b c d : Int) (w : World) (hS : SpansAt w) :
    Calls Tryz.prog 36 #[.agg #[.int .i64 a, .int .i64 b, .int .i64 c, .int .i64 d]] w fun e w' => ∃ r : Int, e = .returned (.int .i64 r) ∧ (Right a b c d ∧ r = 0 ∨ ¬ Right a b c d ∧ r = 2) ∧ Below w.heap.size w w' := by
  have HS := Lib.hid hS; clear hS
  have HW := Lib.hid (below_new w (.cells #[.int .i64 a, .int .i64 b, .int .i64 c, .int .i64 d] 39))
  go_enter Tryz.func36, Tryz.ntmps36
  go_wp2_with fail
  refine (numbers_c a b c d _).mono ?_
  rintro e W ⟨rfl, hW⟩
  have hB := belowOn HW.out hW
  have HS1 := Lib.hid (HS.out.below hB)
  have HB := Lib.hid hB
  clear hW hB HS HW
  go_wp2_with fail
  obtain ⟨⟨a1, a2, a3⟩, ⟨b1, b2, b3⟩, ⟨c1, c2, c3⟩, ⟨d1, d2, d3⟩⟩ := HS1.out
  have i0 := index0 a b c d; have i1 := index1 a b c d; have i2 := index2 a b c d; have i3 := index3 a b c d
  go_loop [7] (fun vi => ∃ k : Nat, vi = .int .i64 k ∧ k ≤ 4 ∧ Hid (rightTo a b c d k)) (fun vi => 4 - (intOf vi).toNat)
  case atStart => exact ⟨0, rfl, by omega, Lib.hid ⟨by omega, by omega, by omega, by omega⟩⟩
  case round =>
    obtain ⟨k, rfl, hk, HR⟩ := hrel
    obtain rfl | rfl | rfl | rfl | rfl : k = 0 ∨ k = 1 ∨ k = 2 ∨ k = 3 ∨ k = 4 := by omega
    · by_cases h1 : a < 2
      · have HN : Hid (¬ Right a b c d) := Lib.hid (fun h => by unfold Right at h; omega)
        clear HR HS1
        go_wp2
        go_ret
        exact ⟨2, rfl, .inr ⟨HN.out, rfl⟩, HB.out⟩
      · by_cases h2 : 4096 < a
        · have HN : Hid (¬ Right a b c d) := Lib.hid (fun h => by unfold Right at h; omega)
          clear HR HS1
          go_wp2
          go_ret
          exact ⟨2, rfl, .inr ⟨HN.out, rfl⟩, HB.out⟩
        · have HN : Hid (rightTo a b c d 1) := Lib.hid (by have := HR.out; unfold rightTo at *; omega)
          clear HR HS1
          go_wp2
          go_round
          case rel => exact ⟨1, by go_num, by omega, HN⟩
          case measure => simp [intOf]
    · by_cases h1 : b < 1
      · have HN : Hid (¬ Right a b c d) := Lib.hid (fun h => by unfold Right at h; omega)
        clear HR HS1
        go_wp2
        go_ret
        exact ⟨2, rfl, .inr ⟨HN.out, rfl⟩, HB.out⟩
      · by_cases h2 : 63 < b
        · have HN : Hid (¬ Right a b c d) := Lib.hid (fun h => by unfold Right at h; omega)
          clear HR HS1
          go_wp2
          go_ret
          exact ⟨2, rfl, .inr ⟨HN.out, rfl⟩, HB.out⟩
        · have HN : Hid (rightTo a b c d 2) := Lib.hid (by have := HR.out; unfold rightTo at *; omega)
          clear HR HS1
          go_wp2
          go_round
          case rel => exact ⟨2, by go_num, by omega, HN⟩
          case measure => simp [intOf]
    · by_cases h1 : c < 1
      · have HN : Hid (¬ Right a b c d) := Lib.hid (fun h => by unfold Right at h; omega)
        clear HR HS1
        go_wp2
        go_ret
        exact ⟨2, rfl, .inr ⟨HN.out, rfl⟩, HB.out⟩
      · by_cases h2 : 64 < c
        · have HN : Hid (¬ Right a b c d) := Lib.hid (fun h => by unfold Right at h; omega)
          clear HR HS1
          go_wp2
          go_ret
          exact ⟨2, rfl, .inr ⟨HN.out, rfl⟩, HB.out⟩
        · have HN : Hid (rightTo a b c d 3) := Lib.hid (by have := HR.out; unfold rightTo at *; omega)
          clear HR HS1
          go_wp2
          go_round
          case rel => exact ⟨3, by go_num, by omega, HN⟩
          case measure => simp [intOf]
    · by_cases h1 : d < 0
      · have HN : Hid (¬ Right a b c d) := Lib.hid (fun h => by unfold Right at h; omega)
        clear HR HS1
        go_wp2
        go_ret
        exact ⟨2, rfl, .inr ⟨HN.out, rfl⟩, HB.out⟩
      · by_cases h2 : 64 < d
        · have HN : Hid (¬ Right a b c d) := Lib.hid (fun h => by unfold Right at h; omega)
          clear HR HS1
          go_wp2
          go_ret
          exact ⟨2, rfl, .inr ⟨HN.out, rfl⟩, HB.out⟩
        · have HN : Hid (rightTo a b c d 4) := Lib.hid (by have := HR.out; unfold rightTo at *; omega)
          clear HR HS1
          go_wp2
          go_round
          case rel => exact ⟨4, by go_num, by omega, HN⟩
          case measure => simp [intOf]
    · have HN : Hid (Right a b c d) := Lib.hid (by have := HR.out; unfold rightTo at this; unfold Right; omega)
      clear HR HS1
      go_wp2
      go_ret
      exact ⟨0, rfl, .inl ⟨HN.out, rfl⟩, HB.out⟩
theorem check_right (a b c d : Int) (hr : Right a b c d) (w : World) (hS : SpansAt w) :
    Calls Tryz.prog 36 #[.agg #[.int .i64 a, .int .i64 b, .int .i64 c, .int .i64 d]] w fun e w' => e = .returned (.int .i64 0) ∧ Below w.heap.size w w' :=
  (check_any a b c d w hS).mono fun e w' ⟨r, he, hx, hb⟩ => by
    rcases hx with ⟨_, rfl⟩ | ⟨hn, _⟩
    · exact ⟨he, hb⟩
    · exact absurd hr hn
theorem check_wrong (a b c d : Int) (hr : ¬ Right a b c d) (w : World) (hS : SpansAt w) :
    Calls Tryz.prog 36 #[.agg #[.int .i64 a, .int .i64 b, .int .i64 c, .int .i64 d]] w fun e w' => e = .returned (.int .i64 2) ∧ Below w.heap.size w w' :=
  (check_any a b c d w hS).mono fun e w' ⟨r, he, hx, hb⟩ => by
    rcases hx with ⟨hn, _⟩ | ⟨_, rfl⟩
    · exact absurd hn hr
    · exact ⟨he, hb⟩
/- sum -/
def sumTo (zs : List Int) (k : Nat) : Int := (zs.take k).sum
theorem sumTo_next (zs : List Int) (k : Nat) (h : k < zs.length) : sumTo zs (k + 1) = sumTo zs k + zs.getD k 0 := by
  unfold sumTo
  rw [List.take_succ_eq_append_getElem h, List.sum_append]
  simp [List.getD, List.getElem?_eq_getElem h]
theorem sumTo_le (zs : List Int) (hz : ∀ x ∈ zs, 0 ≤ x ∧ x ≤ 100000) (k : Nat) : 0 ≤ sumTo zs k ∧ sumTo zs k ≤ 100000 * (k : Int) := by
  induction k with
  | zero => simp [sumTo]
  | succ k ih =>
    by_cases h : k < zs.length
    · rw [sumTo_next zs k h]
      have := hz (zs.getD k 0) (by simp [List.getD, List.getElem?_eq_getElem h])
      omega
    · have : sumTo zs (k + 1) = sumTo zs k := by
        unfold sumTo
        rw [List.take_of_length_le (by omega), List.take_of_length_le (by omega)]
      rw [this]; omega
theorem sum_c (zs : List Int) (hl : zs.length ≤ 4) (hz : ∀ x ∈ zs, 0 ≤ x ∧ x ≤ 100000) (b cap : Nat) (w : World) (hr : ∀ j, j < zs.length → w.cell? ⟨b, j, none⟩ = some (.int .i64 (zs.getD j 0))) :
    Calls Tryz.prog 120 #[.slice (some ⟨b, 0, none⟩) zs.length cap] w fun e w' => e = .returned (.int .i64 zs.sum) ∧ w = w' := by
  have HZ := Lib.hid hz; have HR := Lib.hid hr; clear hz hr
  go_enter Tryz.func120, Tryz.ntmps120
  go_wp2
  go_loop [3, 8] (fun vs vi => ∃ (k : Nat) (s : Int), vi = .int .i64 k ∧ k ≤ zs.length ∧ vs = .int .i64 s ∧ 0 ≤ s ∧ s ≤ 400000 ∧ Hid (s = sumTo zs k)) (fun _ vi => zs.length - (intOf vi).toNat)
  case atStart => exact ⟨0, 0, rfl, Nat.zero_le _, rfl, by omega, by omega, Lib.hid (by simp [sumTo])⟩
  case round =>
    obtain ⟨k, s, rfl, hk, rfl, h0, h1, HE⟩ := hrel
    by_cases hlt : k < zs.length
    · have hc := HR.out k hlt
      have hle := sumTo_le zs HZ.out (k + 1)
      have hx := HZ.out (zs.getD k 0) (by simp [List.getD, List.getElem?_eq_getElem hlt])
      have HN : Hid (s + zs.getD k 0 = sumTo zs (k + 1)) := Lib.hid (by rw [sumTo_next zs k hlt, ← HE.out])
      rw [← HN.out] at hle
      generalize zs.getD k 0 = x at *
      have hle1 : 0 ≤ s + x := hle.1
      have hle2 : s + x ≤ 400000 := by omega
      clear hle HE
      go_wp2
      go_round
      case rel => exact ⟨k + 1, s + x, by go_num, by omega, by go_num, by omega, by omega, HN⟩
      case measure => simp [intOf]; omega
    · obtain rfl : k = zs.length := by omega
      have HN : Hid (s = zs.sum) := Lib.hid (by rw [HE.out]; simp [sumTo])
      clear HE
      go_wp2
      go_ret
      refine ⟨?_, rfl⟩
      rw [← HN.out]; rfl
end Go.Proofs.YtbpkdihonemogaaGreatDoor
/- Small lemmas that the cards of this seat share: the row's last step where the world has only grown; the row's wrap that hands on the world's shape too; what the table of spans holds, cell for cell; a configuration as data. -/
namespace Go.Proofs.YtbpkdihonemogaaGreatDoor
open Go Go.RowKit Go.WideShapes Go.ChangeShapes
section
variable {H : Type} {enc : TypeId × Value → H} {P : Program}
/-- The row's last step where the world has only grown. -/
theorem post_of_below {f : Func} {s : ChangeSpec} {apart fresh handsOn again : Bool} {W W' : World} {args : Array Value} {v : Value} {ds gs : List (DataW H)} {before pa pv : List MemPlace}
    (hW : DataW.Whole enc P f.params.toList s.vars apart W args.toList ds gs before)
    (hres : ∀ (b : Nat) (sp : Nat → Bool) (hd : Bool), DataW.TrodAll enc P W' b sp hd f.resultTypes.toList (v.resultList f.resultTypes.size) (s.fn H (ds ++ gs)).results [])
    (hargs : ∀ sp : Nat → Bool, (∀ p ∈ before, sp p.block = true) → DataW.TrodAll enc P W' 0 sp true f.params.toList args.toList (s.fn H (ds ++ gs)).args pa)
    (hvars : ∀ sp : Nat → Bool, (∀ p ∈ before, sp p.block = true) → DataW.TrodVars enc P W' sp s.vars (s.fn H (ds ++ gs)).vars pv)
    (hps : before = pa ++ pv) (hb : Below W.heap.size W W')
    (hok : ∀ (j : Nat) (t : TypeId) (r : Value), f.resultTypes[j]? = some t → (v.resultList f.resultTypes.size)[j]? = some r → Value.okWide P W' .any 0 t r) :
    s.post enc P f apart fresh handsOn again W args v W' := by
  have hlt : ∀ p ∈ before, p.block < W.heap.size := fun p hp => hW.lt p hp
  have hold : ∀ p ∈ before, (fun b => decide (b < W.heap.size)) p.block = true := fun p hp => by simpa using hlt p hp
  refine ⟨ds, gs, before, [], pa, pv, hW, hres _ _ _, hargs _ hold, hvars _ hold, World.keptBut_mono (fun p hp => ⟨hp, ?_⟩) (hb.frame (· ∈ before)), fun _ => ?_⟩
  · rw [hps, List.mem_append] at hp
    exact Or.inr hp
  · obtain ⟨_, _, _, _, _, hz, hn⟩ := hW
    refine ⟨hok, _, _, ([] ++ pa) ++ pv, ⟨[] ++ pa, pv, trodAll_append (hargs _ (fun _ _ => rfl)) (hres _ _ _), hvars _ (fun _ _ => rfl), rfl, ?_, ?_⟩, ?_⟩
    · intro b off hp
      have hin : MemPlace.cell b off ∈ before := by rw [hps]; simpa using hp
      rw [hb.frozen (hlt _ hin)]
      exact hz b off hin
    · intro ha
      have := hn ha
      rw [hps] at this
      simpa using this
    · intro p hp _
      rw [hps]
      simpa using hp
/-- The wrap of a plain row that lists variables: the walk is handed what they hold, and the world's shape. -/
theorem wrap_laid {C : Checked} {os : Os} {f : FuncId} {fn : Func} {s : ChangeSpec} {apart fresh handsOn again : Bool} {L : List (String × DataW Unit)}
    (own : ownKnob C.prog.godebug = none) (started : os.Started) (noInit : C.prog.inits.idxOf? f = none) (hfn : C.prog.funcs[f]? = some fn)
    (witness : ∃ (w : World) (tape : Tape) (i : Input), w.os = os ∧ (w.forCall tape i).Shaped C.prog ∧ i.vars = [] ∧ Input.okWide C.prog (w.forCall tape i) .any w.heap.size f i ∧
      ((s.pre enc C.prog fn [] apart (w.forCall tape i).memory i.args ∧ laidMetH C.prog L (w.forCall tape i).memory) ∧ sizedMet enc C.prog fn (OpenSpec.ofChange s) apart (w.forCall tape i).memory i.args) ∧ Assume.holds {} C.prog (lone (Frame.enter C.prog f i.args .normal) [] (w.forCall tape i)))
    (walk : ∀ (W : World) (base : Nat) (args : Array Value) (ds gs : List (DataW H)) (before : List MemPlace), (∀ (j : Nat) t v, fn.params[j]? = some t → args[j]? = some v → Value.okWide C.prog W .any base t v) →
      DataW.Whole enc C.prog fn.params.toList s.vars apart W args.toList ds gs before → laidMetH C.prog L W → W.ShapedOpen C.prog →
      Calls C.prog f args W fun e W' => ∃ v, e = .returned v ∧ s.post enc C.prog fn apart fresh handsOn again W args v W') :
    ReturnsInHanded {} C os f .any (fun w args => (s.pre enc C.prog fn [] apart w args ∧ laidMetH C.prog L w) ∧ sizedMet enc C.prog fn (OpenSpec.ofChange s) apart w args) (s.post enc C.prog fn apart fresh handsOn again) := by
  refine returnsInHanded_of_calls own started noInit witness ?_
  intro w tape i _ hsh _ hok hpre _
  obtain ⟨_, _, _, fn', hfn', _, _, _, _, hval⟩ := hok
  obtain rfl : fn' = fn := Option.some.inj (hfn'.symm.trans hfn)
  obtain ⟨⟨⟨ds, gs, before, hw, _⟩, hx⟩, _⟩ := hpre
  refine (walk (w.forCall tape i) w.heap.size i.args ds gs before hval (DataW.Whole.of_heap (w' := w.forCall tape i) (by rfl) hw) (hx.of_heap (by rfl)) hsh).mono fun e W' ⟨v, he, hp⟩ => ?_
  subst he
  exact ChangeSpec.post_blind hp
/-- A struct of a text and two numbers, read. -/
theorem span_cells {w : World} {bs : Nat} {sp : Nat → Bool} {held : Bool} {fuel : Nat} {t ts ti : TypeId} {f0 f1 f2 : Field} {cs : List Value} {z : List UInt8} {a b : Int} {x : DataW H × List MemPlace}
    (ht : P.underlying t = some (.struct #[f0, f1, f2])) (e0 : f0.type = ts ∧ f0.offset = 0) (e1 : f1.type = ti ∧ f1.offset = 1) (e2 : f2.type = ti ∧ f2.offset = 2) (hs : P.underlying ts = some .string) (hi : P.underlying ti = some (.int .i64))
    (cS : P.cellsOf ts = 1) (cI : P.cellsOf ti = 1) (h : DataW.trod enc P w bs sp held fuel t cs = some x) (hx : x.1 = .agg [.lit (.string z), .lit (.int .i64 a), .lit (.int .i64 b)]) :
    cs[0]? = some (.string ⟨z.toArray⟩) ∧ cs[1]? = some (.int .i64 a) ∧ cs[2]? = some (.int .i64 b) := by
  obtain ⟨xs, n, _, rfl, _, hl, hf⟩ := DataW.trod_struct ht h
  have g0 := hf 0 f0 rfl
  have g1 := hf 1 f1 rfl
  have g2 := hf 2 f2 rfl
  simp only [e0.1, e0.2, e1.1, e1.2, e2.1, e2.2, cS, cI] at g0 g1 g2
  simp only [DataW.agg.injEq] at hx
  match xs, hx with
  | [y0, y1, y2], hx =>
    simp only [List.map_cons, List.map_nil, List.cons.injEq, and_true] at hx
    obtain ⟨h0, h1, h2⟩ := hx
    obtain ⟨s, c0, d0, _⟩ := DataW.trod_string hs (g0.trans rfl)
    obtain ⟨p, c1, d1, _⟩ := DataW.trod_int hi (g1.trans rfl)
    obtain ⟨q, c2, d2, _⟩ := DataW.trod_int hi (g2.trans rfl)
    rw [d0] at h0; rw [d1] at h1; rw [d2] at h2
    simp only [DataW.lit.injEq, Lit.string.injEq, Lit.int.injEq, true_and] at h0 h1 h2
    subst h1 h2
    have k0 := congrArg (·[0]?) c0
    have k1 := congrArg (·[0]?) c1
    have k2 := congrArg (·[0]?) c2
    simp [List.getElem?_drop] at k0 k1 k2
    refine ⟨?_, k1, k2⟩
    rw [k0, ← h0]
end
theorem own : ownKnob Tryz.prog.godebug = none := by kernel_rfl
theorem cellsString : Tryz.prog.cellsOf 9 = 1 := by kernel_rfl
theorem cellsInt : Tryz.prog.cellsOf 3 = 1 := by kernel_rfl
theorem cellsSpan : Tryz.prog.cellsOf 115 = 3 := by kernel_rfl
theorem gSpans : Tryz.prog.globalNamed "mudlark/config.spans" = some 0 := by kernel_rfl
theorem gSpansType : (Tryz.prog.globals[0]?).map (·.type) = some 116 := by kernel_rfl
theorem spansAt {W : World} {rest : List (String × DataW Unit)} (h : laidMet Tryz.prog (("mudlark/config.spans", Rows.laid_mudlark_config_spans) :: rest) W) : SpansAt W := by
  obtain ⟨ps, ⟨g', t', cs, fuel, p, q, hg', ht', hvar, hd, _, _⟩, _⟩ := h
  obtain rfl := Option.some.inj (gSpans.symm.trans hg')
  obtain rfl := Option.some.inj (gSpansType.symm.trans ht')
  obtain ⟨xs, m, _, ex, _, hl, hel⟩ := DataW.trod_array Tryz.underlying116 hd
  have e3 : xs.map (·.1) = _ := (DataW.agg.inj (Prod.mk.inj ex).1).symm
  match xs, e3 with
  | [y0, y1, y2, y3], e3 =>
    simp only [List.map_cons, List.map_nil, List.cons.injEq, and_true] at e3
    obtain ⟨h0, h1, h2, h3⟩ := e3
    have hc := fun i => World.var?_cell gSpans hvar i
    have r0 := span_cells Tryz.underlying115 ⟨rfl, rfl⟩ ⟨rfl, rfl⟩ ⟨rfl, rfl⟩ Tryz.underlying9 Tryz.underlying3 cellsString cellsInt ((hel 0 (by omega)).trans rfl) h0
    have r1 := span_cells Tryz.underlying115 ⟨rfl, rfl⟩ ⟨rfl, rfl⟩ ⟨rfl, rfl⟩ Tryz.underlying9 Tryz.underlying3 cellsString cellsInt ((hel 1 (by omega)).trans rfl) h1
    have r2 := span_cells Tryz.underlying115 ⟨rfl, rfl⟩ ⟨rfl, rfl⟩ ⟨rfl, rfl⟩ Tryz.underlying9 Tryz.underlying3 cellsString cellsInt ((hel 2 (by omega)).trans rfl) h2
    have r3 := span_cells Tryz.underlying115 ⟨rfl, rfl⟩ ⟨rfl, rfl⟩ ⟨rfl, rfl⟩ Tryz.underlying9 Tryz.underlying3 cellsString cellsInt ((hel 3 (by omega)).trans rfl) h3
    simp only [cellsSpan, List.getElem?_take, List.getElem?_drop] at r0 r1 r2 r3
    simp at r0 r1 r2 r3
    refine ⟨⟨(hc 0).trans ?_, (hc 1).trans ?_, (hc 2).trans ?_⟩, ⟨(hc 3).trans ?_, (hc 4).trans ?_, (hc 5).trans ?_⟩, ⟨(hc 6).trans ?_, (hc 7).trans ?_, (hc 8).trans ?_⟩, ⟨(hc 9).trans ?_, (hc 10).trans ?_, (hc 11).trans ?_⟩⟩
    · exact r0.1
    · exact r0.2.1
    · exact r0.2.2
    · exact r1.1
    · exact r1.2.1
    · exact r1.2.2
    · exact r2.1
    · exact r2.2.1
    · exact r2.2.2
    · exact r3.1
    · exact r3.2.1
    · exact r3.2.2
theorem cellsCfg : Tryz.prog.cellsOf 39 = 4 := by kernel_rfl
section
open Go.Joins Go.Deep
theorem shut_cfg {H : Type} {enc : TypeId × Value → H} {w : World} {bs : Nat} {sp : Nat → Bool} {held : Bool} {a b c d : Int} (h0 : (Lit.int .i64 a).wf = true) (h1 : (Lit.int .i64 b).wf = true) (h2 : (Lit.int .i64 c).wf = true) (h3 : (Lit.int .i64 d).wf = true) :
    DataW.Trod enc Tryz.prog w bs sp held 39 (.agg #[.int .i64 a, .int .i64 b, .int .i64 c, .int .i64 d]) (.agg [.lit (.int .i64 a), .lit (.int .i64 b), .lit (.int .i64 c), .lit (.int .i64 d)]) [] :=
  shut_agg4 Tryz.underlying39 (by kernel_rfl) cellsCfg (field_of_Trod (shut_int Tryz.underlying3 h0) rfl) (field_of_Trod (shut_int Tryz.underlying3 h1) rfl) (field_of_Trod (shut_int Tryz.underlying3 h2) rfl) (field_of_Trod (shut_int Tryz.underlying3 h3) rfl)
end
end Go.Proofs.YtbpkdihonemogaaGreatDoor
/- A law for a range over a function whose iterator may itself range over another one, and tells the members of a given list: the caller's invariant abides whatever the iterator lays and turns behind the heap's end, and each round tells that it left alone what lies there. -/
namespace Go.Proofs.YtbpkdihonemogaaGreatDoor
open Go Go.RowKit
variable {F : Fence} {n : Nat} {P : Program}

/-- Whatever lies at or behind block B lies as it lay, but for rows of e's. -/
def KeepsTop (e : TypeId) (B : Nat) (W W' : World) : Prop := W.heap.size ≤ W'.heap.size ∧ ∀ (k : Nat) (o : Obj), B ≤ k → (∀ c fz, o ≠ .cells c e fz) → W.heap[k]? = some o → W'.heap[k]? = some o
theorem KeepsTop.refl (e : TypeId) (B : Nat) (W : World) : KeepsTop e B W W := ⟨Nat.le_refl _, fun _ _ _ _ h => h⟩
theorem KeepsTop.trans {e : TypeId} {B : Nat} {X Y Z : World} (h : KeepsTop e B X Y) (k : KeepsTop e B Y Z) : KeepsTop e B X Z := ⟨Nat.le_trans h.1 k.1, fun i o hB ho hi => k.2 i o hB ho (h.2 i o hB ho hi)⟩
theorem KeepsTop.up {e : TypeId} {B B' : Nat} {W W' : World} (h : KeepsTop e B W W') (hb : B ≤ B') : KeepsTop e B' W W' := ⟨h.1, fun k o hk => h.2 k o (Nat.le_trans hb hk)⟩
theorem KeepsTop.of_grownBy {e : TypeId} {B : Nat} {W W' : World} {row : Option Nat} (hg : W.grownBy W' row) (hrow : ∀ j, row = some j → j < B) : KeepsTop e B W W' :=
  ⟨hg.size, fun k _ hB _ hk => (hg.block k (Array.getElem?_eq_some_iff.1 hk).1 (fun e => by have := hrow k e.symm; omega)).trans hk⟩
theorem KeepsTop.of_row {e : TypeId} {B : Nat} {W W' : World} {row : Option Nat} (hg : W.grownBy W' row) (hrow : ∀ j, row = some j → ∃ c fz, W.heap[j]? = some (.cells c e fz)) : KeepsTop e B W W' :=
  ⟨hg.size, fun k o _ ho hk => (hg.block k (Array.getElem?_eq_some_iff.1 hk).1 (fun e => by
    obtain ⟨c, fz, h⟩ := hrow k e.symm
    rw [hk] at h; cases h; exact ho c fz rfl)).trans hk⟩
theorem KeepsTop.putObj {e : TypeId} {B : Nat} {W : World} {l : Nat} (o : Obj) (h : l < B) : KeepsTop e B W (W.putObj l o) :=
  KeepsTop.of_grownBy (grownBy_putObj' W l o) (fun j e => by cases e; exact h)
theorem KeepsTop.of_below {e : TypeId} {B : Nat} {W W' : World} (h : Below W.heap.size W W') : KeepsTop e B W W' :=
  ⟨h.size, fun k _ _ _ hk => (h.block k (Array.getElem?_eq_some_iff.1 hk).1).trans hk⟩
theorem KeepsTop.cells {e : TypeId} {B : Nat} {W W' : World} (h : KeepsTop e B W W') {b : Nat} {cs : Array Value} {t : TypeId} {fz : Nat × Nat} (hb : B ≤ b) (ht : t ≠ e) (hc : W.heap[b]? = some (.cells cs t fz)) : W'.heap[b]? = some (.cells cs t fz) :=
  h.2 b _ hb (fun c fz' he => by cases he; exact ht rfl) hc

/-- The contract of an iterator value that tells the members of the list zs, one behind the other. -/
def SeqL {α : Type} (e₀ : TypeId) (F : Fence) (n : Nat) (P : Program) (g : Nat) (lb : Array Value) (encs : α → Array Value) (zs : List α) (w : World) : Prop :=
  ∀ (l : Nat) (J Jx : List α → World → Prop) (W : World), Below w.heap.size w W → OwnFrom W.heap.size J → OwnFrom W.heap.size Jx →
    (∀ pre x W1, J pre W1 → pre ++ [x] <+: zs → YieldAt F (n - 1) P l (encs x) W1 fun e W' =>
      (e = .returned (.bool true) ∧ J (pre ++ [x]) W' ∧ KeepsTop e₀ W.heap.size W1 W') ∨ (e = .returned (.bool false) ∧ Jx (pre ++ [x]) W' ∧ KeepsTop e₀ W.heap.size W1 W')) →
    J [] W →
    CallsIn F n P g (#[.func (.yield l) #[] #[]] ++ lb) W fun e W' => (∃ v, e = .returned v) ∧ (J zs W' ∨ (∃ pre, pre <+: zs ∧ Jx pre W'))

/-- How the body of a round may be left. -/
def postL {α : Type} (e₀ : TypeId) (B : Nat) (I : List α → World → Prop) (Ix : Code → List α → World → Prop) (xs : List α) (W : World) : Exit → Act → World → Prop
  | .normal, _, W' => KeepsTop e₀ B W W' ∧ I xs W'
  | .ret, _, W' => KeepsTop e₀ B W W' ∧ Ix .ret xs W'
  | .exit id, _, W' => KeepsTop e₀ B W W' ∧ Ix (.exit id) xs W'
  | .goto t, _, W' => KeepsTop e₀ B W W' ∧ Ix (.goto t) xs W'
  | .panic _, _, _ => False
  | .outgrown, _, _ => False

set_option maxHeartbeats 1000000 in
theorem wpIn_rangeL {α : Type} {e₀ : TypeId} {g : Operand} {ps : Array Tmp} {assign body : Code} {Q : Exit → Act → World → Prop} {a : Act} {w : World}
    (hro : F.round = none) (h1 : 1 ≤ n) {gf : Nat} {lb : Array Value} (hg : a.eval g = .func (.func gf) #[] lb) (hFg : F.fn gf) (eg : ∀ args w, (callFunc gf args).run P w = .ok (.enter gf args) w)
    {encs : α → Array Value} {zs : List α} {w0 : World} (hseq : SeqL e₀ F (n - 1) P gf lb encs zs w0)
    (hb0 : Below w0.heap.size w0 w) (hps : ∀ x, (encs x).size = ps.size)
    (I : List α → World → Prop) (Ix : Code → List α → World → Prop) (hI : OwnFrom w.heap.size I) (hIx : ∀ c, OwnFrom w.heap.size (Ix c)) (h0 : I [] w) (a₁ : α → Act)
    (hassign : ∀ (l : Nat) (x : α) (W : World) (K : Act → World → Prop), K (a₁ x) W →
      assign.wpIn (F.inRound l) (n - 1 - 1) P (Exit.then K (fun _ _ _ => False)) { tmps := (ps.zip (encs x)).foldl (fun t (p, v) => t.setIfInBounds p v) a.tmps, defers := [] } W)
    (hbody : ∀ (l : Nat) (pre : List α) (x : α) (W : World), I pre W → pre ++ [x] <+: zs → body.wpIn (F.inRound l) (n - 1 - 1) P (postL e₀ w.heap.size I Ix (pre ++ [x]) W) (a₁ x) W)
    (hdone : ∀ (D : Nat) (W : World), w.heap.size ≤ D → I zs W → W.heap[D]? = some (.deferred (some [])) → Q .normal { a with defers := { target := .collected D, args := #[] } :: a.defers } W)
    (hstop : ∀ (D : Nat) (c : Code) (pre : List α) (W : World), w.heap.size ≤ D → pre <+: zs → Ix c pre W → W.heap[D]? = some (.deferred (some [])) → c.wpIn F n P Q { a with defers := { target := .collected D, args := #[] } :: a.defers } W) :
    (Code.rangeFunc g ps assign body).wpIn F n P Q a w := by
  refine wpIn_rangeFunc ?_
  intro fn hfn
  rw [hro]
  obtain ⟨rec, hrec⟩ : ∃ rec : LoopState → Option Code → Loop, rec = fun st pe => { state := st, pending := pe, fn, tmps := a.tmps, params := ps, assign, body, defers := w.heap.size } := ⟨_, rfl⟩
  obtain ⟨W1, hW1⟩ : ∃ W1, (w.alloc (.deferred (some []))).alloc (.loop (rec .ready none)) = W1 := ⟨_, rfl⟩
  have hz1 : W1.heap.size = w.heap.size + 2 := by rw [← hW1]; simp
  have hL1 : W1.heap[w.heap.size + 1]? = some (.loop (rec .ready none)) := by
    rw [← hW1]; have := World.alloc_heap_new (w.alloc (.deferred (some []))) (.loop (rec .ready none)); rwa [World.size_alloc] at this
  have hK1 : W1.heap[w.heap.size]? = some (.deferred (some [])) := by
    rw [← hW1]; exact (Below.heap_alloc _ _ _ (by simp)).trans (World.alloc_heap_new w _)
  have hI1 : I [] W1 := by rw [← hW1]; exact hI.alloc _ (hI.alloc _ h0)
  have hb1 : Below w0.heap.size w0 W1 := by
    rw [← hW1]; exact hb0.trans ((((Below.refl _ w).alloc (Nat.le_refl _) _).alloc (by simp) _).mono hb0.size)
  -- what lies at the two blocks of book-keeping lies there behind whatever turns a block behind them
  have old : ∀ {A B : World} {row : Option Nat} {k : Nat} {o : Obj}, A.grownBy B row → (∀ r, row = some r → W1.heap.size ≤ r ∧ ∃ o : Obj, A.heap[r]? = some o ∧ o.isCells = false) → k ≤ w.heap.size + 1 → A.heap[k]? = some o → B.heap[k]? = some o := fun hg' hr hk ho =>
    (hg'.block _ (Array.getElem?_eq_some_iff.1 ho).1 (fun e => by have := (hr _ e.symm).1; omega)).trans ho
  have low : ∀ {A : World} {row : Option Nat}, (∀ r, row = some r → W1.heap.size ≤ r ∧ ∃ o : Obj, A.heap[r]? = some o ∧ o.isCells = false) → (∀ r, row = some r → w.heap.size ≤ r ∧ ∃ o : Obj, A.heap[r]? = some o ∧ o.isCells = false) :=
    fun hr r e => ⟨by have := (hr r e).1; omega, (hr r e).2⟩
  refine ⟨w.heap.size + 1, [{ target := .collected w.heap.size, args := #[] }], W1, { target := .fn (.func gf) lb, args := #[.func (.yield (w.heap.size + 1)) #[] #[]] }, W1, gf,
    #[.func (.yield (w.heap.size + 1)) #[] #[]] ++ lb, W1, ?_, ?_, ?_, ?_, fun _ => h1, ?_⟩
  · rw [← hW1, hrec]; exact run_enterLoop_outer _ _ _ _ _
  · simp only [resolve, hg]
    simp [go_sem]
  · intro f' hf'; simp [Target.leads] at hf'; subst hf'; exact hFg
  · simp [invoke, go_sem, eg]
  · refine (hseq (w.heap.size + 1)
      (fun pre W => I pre W ∧ W.heap[w.heap.size + 1]? = some (.loop (rec .ready none)) ∧ W.heap[w.heap.size]? = some (.deferred (some [])))
      (fun pre W => ∃ c, Ix c pre W ∧ W.heap[w.heap.size + 1]? = some (.loop (rec .done (some c))) ∧ W.heap[w.heap.size]? = some (.deferred (some [])))
      W1 hb1
      (fun s A B row hs hg' hr => ⟨hI s A B row hs.1 hg' (low hr), old hg' hr (Nat.le_refl _) hs.2.1, old hg' hr (by omega) hs.2.2⟩)
      (fun s A B row hs hg' hr => by
        obtain ⟨c, hc, hl, hk⟩ := hs
        exact ⟨c, hIx c s A B row hc hg' (low hr), old hg' hr (Nat.le_refl _) hl, old hg' hr (by omega) hk⟩)
      ?_ ⟨hI1, hL1, hK1⟩).mono ?_
    · rintro pre x W ⟨hi, hl, hk⟩ hlen
      have hlt : w.heap.size + 1 < W.heap.size := (Array.getElem?_eq_some_iff.1 hl).1
      have hy := run_yield (P := P) (args := encs x) hl (by rw [hrec]; exact hps x)
      rw [hrec] at hy
      refine ⟨fn, _, assign, body, hy, roundIn_of_wpIn hfn (hassign _ x W _ ⟨_, run_beginRound hl (by rw [hrec]), ?_⟩)⟩
      have hl2 : (W.putObj (w.heap.size + 1) (.loop { rec .ready none with state := .busy })).heap[w.heap.size + 1]? = some (.loop { rec .ready none with state := .busy }) := World.putObj_heap_same hlt
      have hk2 : (W.putObj (w.heap.size + 1) (.loop { rec .ready none with state := .busy })).heap[w.heap.size]? = some (.deferred (some [])) := (World.putObj_heap_other (by omega)).trans hk
      have hf2 : KeepsTop e₀ W1.heap.size W (W.putObj (w.heap.size + 1) (.loop { rec .ready none with state := .busy })) := KeepsTop.putObj _ (by omega)
      refine wpIn_mono (hbody _ pre x _ (hI.putObj _ hi (by omega) hl rfl) hlen) ?_
      have fin : ∀ (jump : Option Code) (W3 : World), KeepsTop e₀ w.heap.size (W.putObj (w.heap.size + 1) (.loop { rec .ready none with state := .busy })) W3 →
          (Instr.endRound (w.heap.size + 1) jump).run P W3 = .ok (.bool jump.isNone) (W3.putObj (w.heap.size + 1) (.loop (rec (if jump.isNone then .ready else .done) jump))) ∧
          W3.heap[w.heap.size + 1]? = some (.loop { rec .ready none with state := .busy }) ∧
          (W3.putObj (w.heap.size + 1) (.loop (rec (if jump.isNone then .ready else .done) jump))).heap[w.heap.size + 1]? = some (.loop (rec (if jump.isNone then .ready else .done) jump)) ∧
          (W3.putObj (w.heap.size + 1) (.loop (rec (if jump.isNone then .ready else .done) jump))).heap[w.heap.size]? = some (.deferred (some [])) ∧
          KeepsTop e₀ W1.heap.size W (W3.putObj (w.heap.size + 1) (.loop (rec (if jump.isNone then .ready else .done) jump))) := fun jump W3 hk3 => by
        have hl3 := hk3.2 _ _ (by omega) (fun _ _ h => by cases h) hl2
        have := run_endRound (P := P) jump hl3
        rw [hrec] at this ⊢
        exact ⟨this, by rw [hrec] at hl3; exact hl3, World.putObj_heap_same (Array.getElem?_eq_some_iff.1 hl3).1, (World.putObj_heap_other (by omega)).trans (hk3.2 _ _ (Nat.le_refl _) (fun _ _ h => by cases h) hk2),
          (hf2.trans (hk3.up (by omega))).trans (KeepsTop.putObj _ (by omega))⟩
      rintro e a3 W3 hp
      cases e with
      | normal =>
        obtain ⟨hk3, hi3⟩ := hp
        obtain ⟨hr, hl3, hl4, hk4, hq4⟩ := fin none W3 hk3
        exact ⟨_, _, hr, .inl ⟨rfl, ⟨hI.putObj _ hi3 (by omega) hl3 rfl, hl4, hk4⟩, hq4⟩⟩
      | ret =>
        obtain ⟨hk3, hi3⟩ := hp
        obtain ⟨hr, hl3, hl4, hk4, hq4⟩ := fin (some .ret) W3 hk3
        exact ⟨_, _, hr, .inr ⟨rfl, ⟨.ret, (hIx _).putObj _ hi3 (by omega) hl3 rfl, hl4, hk4⟩, hq4⟩⟩
      | exit id =>
        obtain ⟨hk3, hi3⟩ := hp
        obtain ⟨hr, hl3, hl4, hk4, hq4⟩ := fin (some (.exit id)) W3 hk3
        exact ⟨_, _, hr, .inr ⟨rfl, ⟨.exit id, (hIx _).putObj _ hi3 (by omega) hl3 rfl, hl4, hk4⟩, hq4⟩⟩
      | goto t =>
        obtain ⟨hk3, hi3⟩ := hp
        obtain ⟨hr, hl3, hl4, hk4, hq4⟩ := fin (some (.goto t)) W3 hk3
        exact ⟨_, _, hr, .inr ⟨rfl, ⟨.goto t, (hIx _).putObj _ hi3 (by omega) hl3 rfl, hl4, hk4⟩, hq4⟩⟩
      | panic ch => exact hp.elim
      | outgrown => exact hp.elim
    · rintro e W2 ⟨⟨v, rfl⟩, (⟨hi, hl, hk⟩ | ⟨pre, hSp, c, hi, hl, hk⟩)⟩
      · exact ⟨none, _, by have := run_endLoop (P := P) hl (by rw [hrec]; simp); rw [hrec] at this; exact this, hdone _ _ (Nat.le_refl _) (hI.putObj _ hi (by omega) hl rfl) ((World.putObj_heap_other (by omega)).trans hk)⟩
      · exact ⟨some c, _, by have := run_endLoop (P := P) hl (by rw [hrec]; simp); rw [hrec] at this; exact this, hstop _ c pre _ (Nat.le_refl _) hSp ((hIx c).putObj _ hi (by omega) hl rfl) ((World.putObj_heap_other (by omega)).trans hk)⟩
end Go.Proofs.YtbpkdihonemogaaGreatDoor
/- Package config's Roots, Words, OpRounds and CycleRounds, for every configuration: of a right one as the document counts them, of any other 0. -/
namespace Go.Proofs.YtbpkdihonemogaaGreatDoor
open Go Go.RowKit
set_option maxRecDepth 100000
attribute [local go_sem ↓] Go.wp_at_zero Go.wp_at_succ

theorem Right.prod {a b c d : Int} (h : Right a b c d) : 1 ≤ b * c ∧ b * c ≤ 4032 := by
  obtain ⟨_, _, h1, h2, h3, h4, _, _⟩ := h
  have l : 1 * 1 ≤ b * c := Int.mul_le_mul h1 h3 (by omega) (by omega)
  have u : b * c ≤ 63 * 64 := Int.mul_le_mul h2 h4 (by omega) (by omega)
  omega
theorem sum2_c (x y : Int) (hx : 0 ≤ x ∧ x ≤ 100000) (hy : 0 ≤ y ∧ y ≤ 100000) (B cap : Nat) (w : World) (h0 : w.cell? ⟨B, 0, none⟩ = some (.int .i64 x)) (h1 : w.cell? ⟨B, 1, none⟩ = some (.int .i64 y)) :
    Calls Tryz.prog 120 #[.slice (some ⟨B, 0, none⟩) 2 cap] w fun e w' => e = .returned (.int .i64 (x + y)) ∧ w = w' := by
  have h := sum_c [x, y] (by simp) (by simp; omega) B cap w (fun j hj => by
    obtain rfl | rfl : j = 0 ∨ j = 1 := by simp at hj; omega
    · exact h0
    · exact h1)
  rwa [show ([x, y] : List Int).sum = x + y by simp] at h
theorem sum3_c (x y z : Int) (hx : 0 ≤ x ∧ x ≤ 100000) (hy : 0 ≤ y ∧ y ≤ 100000) (hz : 0 ≤ z ∧ z ≤ 100000) (B cap : Nat) (w : World) (h0 : w.cell? ⟨B, 0, none⟩ = some (.int .i64 x)) (h1 : w.cell? ⟨B, 1, none⟩ = some (.int .i64 y)) (h2 : w.cell? ⟨B, 2, none⟩ = some (.int .i64 z)) :
    Calls Tryz.prog 120 #[.slice (some ⟨B, 0, none⟩) 3 cap] w fun e w' => e = .returned (.int .i64 (x + y + z)) ∧ w = w' := by
  have h := sum_c [x, y, z] (by simp) (by simp; omega) B cap w (fun j hj => by
    obtain rfl | rfl | rfl : j = 0 ∨ j = 1 ∨ j = 2 := by simp at hj; omega
    · exact h0
    · exact h1
    · exact h2)
  rwa [show ([x, y, z] : List Int).sum = x + y + z by simp; omega] at h
theorem sum4_c (x y z u : Int) (hx : 0 ≤ x ∧ x ≤ 100000) (hy : 0 ≤ y ∧ y ≤ 100000) (hz : 0 ≤ z ∧ z ≤ 100000) (hu : 0 ≤ u ∧ u ≤ 100000) (B cap : Nat) (w : World) (h0 : w.cell? ⟨B, 0, none⟩ = some (.int .i64 x)) (h1 : w.cell? ⟨B, 1, none⟩ = some (.int .i64 y)) (h2 : w.cell? ⟨B, 2, none⟩ = some (.int .i64 z)) (h3 : w.cell? ⟨B, 3, none⟩ = some (.int .i64 u)) :
    Calls Tryz.prog 120 #[.slice (some ⟨B, 0, none⟩) 4 cap] w fun e w' => e = .returned (.int .i64 (x + y + z + u)) ∧ w = w' := by
  have h := sum_c [x, y, z, u] (by simp) (by simp; omega) B cap w (fun j hj => by
    obtain rfl | rfl | rfl | rfl : j = 0 ∨ j = 1 ∨ j = 2 ∨ j = 3 := by simp at hj; omega
    · exact h0
    · exact h1
    · exact h2
    · exact h3)
  rwa [show ([x, y, z, u] : List Int).sum = x + y + z + u by simp; omega] at h
/-- The configuration lies in block B. -/
abbrev BoxAt (w : World) (B : Nat) (a b c d : Int) : Prop := w.cell? ⟨B, 0, none⟩ = some (.int .i64 a) ∧ w.cell? ⟨B, 1, none⟩ = some (.int .i64 b) ∧ w.cell? ⟨B, 2, none⟩ = some (.int .i64 c) ∧ w.cell? ⟨B, 3, none⟩ = some (.int .i64 d)
theorem BoxAt.new (w : World) (a b c d : Int) (t : TypeId) : BoxAt (w.alloc (.cells #[.int .i64 a, .int .i64 b, .int .i64 c, .int .i64 d] t)) w.heap.size a b c d := by
  unfold BoxAt
  refine ⟨?_, ?_, ?_, ?_⟩ <;> (rw [World.cell?_alloc_new]; rfl)
theorem BoxAt.below {w w' : World} {B : Nat} {a b c d : Int} (h : BoxAt w B a b c d) (hb : Below w.heap.size w w') : BoxAt w' B a b c d := by
  have hl := lt_of_cell h.1
  exact ⟨(hb.cell (p := ⟨B, 0, none⟩) hl).trans h.1, (hb.cell (p := ⟨B, 1, none⟩) hl).trans h.2.1, (hb.cell (p := ⟨B, 2, none⟩) hl).trans h.2.2.1, (hb.cell (p := ⟨B, 3, none⟩) hl).trans h.2.2.2⟩

theorem roots_right (a b c d : Int) (hr : Right a b c d) (w : World) (hS : SpansAt w) :
    Calls Tryz.prog 121 #[.agg #[.int .i64 a, .int .i64 b, .int .i64 c, .int .i64 d]] w fun e w' => e = .returned (.int .i64 (1 + d + b * c)) ∧ Below w.heap.size w w' := by
  have hb := below_new w (.cells #[.int .i64 a, .int .i64 b, .int .i64 c, .int .i64 d] 39)
  have HC := Lib.hid (check_right a b c d hr _ (hS.below hb))
  have HX := Lib.hid (BoxAt.new w a b c d 39)
  have HB := Lib.hid hb
  have hp := hr.prod
  have hp1 : 1 ≤ b * c := hp.1
  have hp2 : b * c ≤ 4032 := hp.2
  have hd1 : 0 ≤ d := hr.2.2.2.2.2.2.1
  have hd2 : d ≤ 64 := hr.2.2.2.2.2.2.2
  clear hS hb hp hr
  go_enter Tryz.func121, Tryz.ntmps121
  go_wp2_with fail
  refine HC.out.mono ?_
  rintro e W ⟨rfl, hW⟩
  have HB1 := Lib.hid (belowOn HB.out hW)
  obtain ⟨x0, x1, x2, x3⟩ := HX.out.below hW
  clear HX HB HC hW
  go_wp2_with fail
  refine (sum3_c 1 d (b * c) (by omega) (by omega) (by omega) _ _ _ (World.cell?_alloc_new ..) (World.cell?_alloc_new ..) (World.cell?_alloc_new ..)).mono ?_
  rintro e w' ⟨rfl, rfl⟩
  go_wp2_with fail
  go_ret
  exact ⟨rfl, below_on HB1.out _⟩
theorem roots_wrong (a b c d : Int) (hr : ¬ Right a b c d) (w : World) (hS : SpansAt w) :
    Calls Tryz.prog 121 #[.agg #[.int .i64 a, .int .i64 b, .int .i64 c, .int .i64 d]] w fun e w' => e = .returned (.int .i64 0) ∧ Below w.heap.size w w' := by
  have hb := below_new w (.cells #[.int .i64 a, .int .i64 b, .int .i64 c, .int .i64 d] 39)
  have HC := Lib.hid (check_wrong a b c d hr _ (hS.below hb))
  have HB := Lib.hid hb
  clear hS hb hr
  go_enter Tryz.func121, Tryz.ntmps121
  go_wp2_with fail
  refine HC.out.mono ?_
  rintro e W ⟨rfl, hW⟩
  have HB1 := Lib.hid (belowOn HB.out hW)
  clear HB HC hW
  go_wp2_with fail
  go_ret
  exact ⟨rfl, HB1.out⟩
theorem words_wrong (a b c d : Int) (hr : ¬ Right a b c d) (w : World) (hS : SpansAt w) :
    Calls Tryz.prog 85 #[.agg #[.int .i64 a, .int .i64 b, .int .i64 c, .int .i64 d]] w fun e w' => e = .returned (.int .i64 0) ∧ Below w.heap.size w w' := by
  have hb := below_new w (.cells #[.int .i64 a, .int .i64 b, .int .i64 c, .int .i64 d] 39)
  have HC := Lib.hid (check_wrong a b c d hr _ (hS.below hb))
  have HB := Lib.hid hb
  clear hS hb hr
  go_enter Tryz.func85, Tryz.ntmps85
  go_wp2_with fail
  refine HC.out.mono ?_
  rintro e W ⟨rfl, hW⟩
  have HB1 := Lib.hid (belowOn HB.out hW)
  clear HB HC hW
  go_wp2_with fail
  go_ret
  exact ⟨rfl, HB1.out⟩
set_option maxHeartbeats 3200000 in
theorem words_right (a b c d : Int) (hr : Right a b c d) (w : World) (hS : SpansAt w) :
    Calls Tryz.prog 85 #[.agg #[.int .i64 a, .int .i64 b, .int .i64 c, .int .i64 d]] w fun e w' => e = .returned (.int .i64 (4 + b + (1 + d + b * c) + 3 * a)) ∧ Below w.heap.size w w' := by
  have hb := below_new w (.cells #[.int .i64 a, .int .i64 b, .int .i64 c, .int .i64 d] 39)
  have HC := Lib.hid (check_right a b c d hr _ (hS.below hb))
  have HX := Lib.hid (BoxAt.new w a b c d 39)
  have HR := Lib.hid (roots_right a b c d hr)
  have HB := Lib.hid hb
  have hp1 : 1 ≤ b * c := hr.prod.1
  have hp2 : b * c ≤ 4032 := hr.prod.2
  obtain ⟨ha1, ha2, hb1, hb2, hc1, hc2, hd1, hd2⟩ := hr
  have HS := Lib.hid (hS.below hb)
  clear hS hb
  go_enter Tryz.func85, Tryz.ntmps85
  go_wp2_with fail
  refine HC.out.mono ?_
  rintro e W ⟨rfl, hW⟩
  have HB1 := Lib.hid (belowOn HB.out hW)
  have HS1 := Lib.hid (HS.out.below hW)
  obtain ⟨x0, x1, x2, x3⟩ := HX.out.below hW
  clear HX HB HC HS hW
  have hw : IntKind.i64.wrap (3 * a) = 3 * a := IntWalk.i64_in _ (by omega)
  go_wp2_with fail
  go_region_held3 (fun w' => w'.cell? ⟨w.heap.size, 0, none⟩ = some (.int .i64 a) ∧ w'.cell? ⟨w.heap.size, 1, none⟩ = some (.int .i64 b) ∧ w'.cell? ⟨w.heap.size, 2, none⟩ = some (.int .i64 c) ∧ w'.cell? ⟨w.heap.size, 3, none⟩ = some (.int .i64 d)) (first | assumption | go_keep)
    (first
      | (go_at_call 121; refine (HR.out _ ?_).mono ?_; exact HS1.out; rintro e w' ⟨rfl, hW⟩; have hX := BoxAt.below (a := a) (b := b) (c := c) (d := d) (B := w.heap.size) (by assumption) hW)
      | (go_at_call 120; refine (sum4_c 4 b (1 + d + b * c) (3 * a) ?_ ?_ ?_ ?_ _ _ _ (World.cell?_alloc_new ..) (World.cell?_alloc_new ..) (World.cell?_alloc_new ..) (World.cell?_alloc_new ..)).mono ?_; omega; omega; omega; omega; rintro e w' ⟨rfl, rfl⟩))
  all_goals go_wp2_with fail
  all_goals go_ret
  exact ⟨rfl, below_on (belowOn HB1.out.drew hW) _⟩
end Go.Proofs.YtbpkdihonemogaaGreatDoor
/- The document's answers for configurations: Right, Roots, Words and Text, for every configuration. -/
namespace Go.Proofs.YtbpkdihonemogaaGreatDoor
open Go Go.RowKit
set_option maxRecDepth 100000
attribute [local go_sem ↓] Go.wp_at_zero Go.wp_at_succ

def RightPost (w : World) (a b c d : Int) (e : Ending) (w' : World) : Prop := ∃ r : Bool, e = .returned (.bool r) ∧ (Right a b c d ∧ r = true ∨ ¬ Right a b c d ∧ r = false) ∧ Below w.heap.size w w'
set_option maxHeartbeats 3200000 in
theorem refRight_any (a b c d : Int) (w : World) :
    Calls Tryz.prog 15 #[.agg #[.int .i64 a, .int .i64 b, .int .i64 c, .int .i64 d]] w (RightPost w a b c d) := by
  have HB := Lib.hid (below_new w (.cells #[.int .i64 a, .int .i64 b, .int .i64 c, .int .i64 d] 39))
  by_cases h1 : 1 < a
  rotate_left
  · have HN : Hid (¬ Right a b c d) := Lib.hid (fun h => by unfold Right at h; omega)
    go_enter Tryz.func15, Tryz.ntmps15
    go_wp2
    go_ret
    exact ⟨false, rfl, .inr ⟨HN.out, rfl⟩, HB.out⟩
  by_cases h2 : a < 4097
  rotate_left
  · have HN : Hid (¬ Right a b c d) := Lib.hid (fun h => by unfold Right at h; omega)
    go_enter Tryz.func15, Tryz.ntmps15
    go_wp2
    go_ret
    exact ⟨false, rfl, .inr ⟨HN.out, rfl⟩, HB.out⟩
  by_cases h3 : 0 < b
  rotate_left
  · have HN : Hid (¬ Right a b c d) := Lib.hid (fun h => by unfold Right at h; omega)
    go_enter Tryz.func15, Tryz.ntmps15
    go_wp2
    go_ret
    exact ⟨false, rfl, .inr ⟨HN.out, rfl⟩, HB.out⟩
  by_cases h4 : b < 64
  rotate_left
  · have HN : Hid (¬ Right a b c d) := Lib.hid (fun h => by unfold Right at h; omega)
    go_enter Tryz.func15, Tryz.ntmps15
    go_wp2
    go_ret
    exact ⟨false, rfl, .inr ⟨HN.out, rfl⟩, HB.out⟩
  by_cases h5 : 0 < c
  rotate_left
  · have HN : Hid (¬ Right a b c d) := Lib.hid (fun h => by unfold Right at h; omega)
    go_enter Tryz.func15, Tryz.ntmps15
    go_wp2
    go_ret
    exact ⟨false, rfl, .inr ⟨HN.out, rfl⟩, HB.out⟩
  by_cases h6 : c < 65
  rotate_left
  · have HN : Hid (¬ Right a b c d) := Lib.hid (fun h => by unfold Right at h; omega)
    go_enter Tryz.func15, Tryz.ntmps15
    go_wp2
    go_ret
    exact ⟨false, rfl, .inr ⟨HN.out, rfl⟩, HB.out⟩
  by_cases h7 : -1 < d
  rotate_left
  · have HN : Hid (¬ Right a b c d) := Lib.hid (fun h => by unfold Right at h; omega)
    go_enter Tryz.func15, Tryz.ntmps15
    go_wp2
    go_ret
    exact ⟨false, rfl, .inr ⟨HN.out, rfl⟩, HB.out⟩
  by_cases h8 : d < 65
  rotate_left
  · have HN : Hid (¬ Right a b c d) := Lib.hid (fun h => by unfold Right at h; omega)
    go_enter Tryz.func15, Tryz.ntmps15
    go_wp2
    go_ret
    exact ⟨false, rfl, .inr ⟨HN.out, rfl⟩, HB.out⟩
  have HN : Hid (Right a b c d) := Lib.hid (by unfold Right; omega)
  go_enter Tryz.func15, Tryz.ntmps15
  go_wp2
  go_ret
  exact ⟨true, rfl, .inl ⟨HN.out, rfl⟩, HB.out⟩
theorem refRight_right (a b c d : Int) (hr : Right a b c d) (w : World) :
    Calls Tryz.prog 15 #[.agg #[.int .i64 a, .int .i64 b, .int .i64 c, .int .i64 d]] w fun e w' => e = .returned (.bool true) ∧ Below w.heap.size w w' :=
  (refRight_any a b c d w).mono fun e w' ⟨r, he, hx, hb⟩ => by
    rcases hx with ⟨_, rfl⟩ | ⟨hn, _⟩
    · exact ⟨he, hb⟩
    · exact absurd hr hn
theorem refRight_wrong (a b c d : Int) (hr : ¬ Right a b c d) (w : World) :
    Calls Tryz.prog 15 #[.agg #[.int .i64 a, .int .i64 b, .int .i64 c, .int .i64 d]] w fun e w' => e = .returned (.bool false) ∧ Below w.heap.size w w' :=
  (refRight_any a b c d w).mono fun e w' ⟨r, he, hx, hb⟩ => by
    rcases hx with ⟨hn, _⟩ | ⟨_, rfl⟩
    · exact absurd hn hr
    · exact ⟨he, hb⟩
theorem refRoots_wrong (a b c d : Int) (hr : ¬ Right a b c d) (w : World) :
    Calls Tryz.prog 84 #[.agg #[.int .i64 a, .int .i64 b, .int .i64 c, .int .i64 d]] w fun e w' => e = .returned (.int .i64 0) ∧ Below w.heap.size w w' := by
  have HC := Lib.hid (refRight_wrong a b c d hr)
  have HB := Lib.hid (below_new w (.cells #[.int .i64 a, .int .i64 b, .int .i64 c, .int .i64 d] 39))
  clear hr
  go_enter Tryz.func84, Tryz.ntmps84
  go_wp2_with fail
  refine (HC.out _).mono ?_
  rintro e W ⟨rfl, hW⟩
  have HB1 := Lib.hid (belowOn HB.out hW)
  clear HB HC hW
  go_wp2_with fail
  go_ret
  exact ⟨rfl, HB1.out⟩
theorem refWords_wrong (a b c d : Int) (hr : ¬ Right a b c d) (w : World) :
    Calls Tryz.prog 60 #[.agg #[.int .i64 a, .int .i64 b, .int .i64 c, .int .i64 d]] w fun e w' => e = .returned (.int .i64 0) ∧ Below w.heap.size w w' := by
  have HC := Lib.hid (refRight_wrong a b c d hr)
  have HB := Lib.hid (below_new w (.cells #[.int .i64 a, .int .i64 b, .int .i64 c, .int .i64 d] 39))
  clear hr
  go_enter Tryz.func60, Tryz.ntmps60
  go_wp2_with fail
  refine (HC.out _).mono ?_
  rintro e W ⟨rfl, hW⟩
  have HB1 := Lib.hid (belowOn HB.out hW)
  clear HB HC hW
  go_wp2_with fail
  go_ret
  exact ⟨rfl, HB1.out⟩
theorem mul_step (k : Nat) (c : Int) : ((k + 1 : Nat) : Int) * c = (k : Int) * c + c := by rw [Int.natCast_add, Int.add_mul]; simp
set_option maxHeartbeats 3200000 in
theorem refRoots_right (a b c d : Int) (hr : Right a b c d) (w : World) :
    Calls Tryz.prog 84 #[.agg #[.int .i64 a, .int .i64 b, .int .i64 c, .int .i64 d]] w fun e w' => e = .returned (.int .i64 (1 + d + b * c)) ∧ Below w.heap.size w w' := by
  have HC := Lib.hid (refRight_right a b c d hr)
  have HX := Lib.hid (BoxAt.new w a b c d 39)
  have HB := Lib.hid (below_new w (.cells #[.int .i64 a, .int .i64 b, .int .i64 c, .int .i64 d] 39))
  obtain ⟨ha1, ha2, hb1, hb2, hc1, hc2, hd1, hd2⟩ := hr
  go_enter Tryz.func84, Tryz.ntmps84
  go_wp2_with fail
  refine (HC.out _).mono ?_
  rintro e W ⟨rfl, hW⟩
  have HB1 := Lib.hid (belowOn HB.out hW)
  obtain ⟨x0, x1, x2, x3⟩ := HX.out.below hW
  clear HX HB HC hW
  go_wp2_with fail
  go_loop [3, 4] (fun vn vi => ∃ (k : Nat) (n : Int), vi = .int .i64 k ∧ (k : Int) ≤ b ∧ vn = .int .i64 n ∧ 0 ≤ n ∧ n ≤ 5000 ∧ Hid (n = 1 + d + k * c)) (fun _ vi => b.toNat - (intOf vi).toNat)
  case atStart => exact ⟨0, 1 + d, rfl, by omega, rfl, by omega, by omega, Lib.hid (by simp)⟩
  case round =>
    obtain ⟨k, n, rfl, hk, rfl, h0, h1, HN⟩ := hrel
    by_cases hlt : (k : Int) < b
    · have HE : Hid (n + c = 1 + d + ((k + 1 : Nat) : Int) * c) := Lib.hid (by rw [mul_step, HN.out]; omega)
      have hle : n + c ≤ 5000 := by
        rw [HE.out]
        have u : ((k + 1 : Nat) : Int) * c ≤ 63 * 64 := Int.mul_le_mul (by omega) hc2 (by omega) (by omega)
        omega
      clear HN
      go_wp2
      go_round
      case rel => exact ⟨k + 1, n + c, by go_num, by omega, by go_num, by omega, by omega, HE⟩
      case measure => simp [intOf]; omega
    · obtain rfl : b = (k : Int) := by omega
      have HE : Hid (n = 1 + d + (k : Int) * c) := HN
      clear HN
      go_wp2
      go_ret
      refine ⟨?_, HB1.out⟩
      rw [← HE.out]; rfl
set_option maxHeartbeats 3200000 in
theorem refWords_right (a b c d : Int) (hr : Right a b c d) (w : World) :
    Calls Tryz.prog 60 #[.agg #[.int .i64 a, .int .i64 b, .int .i64 c, .int .i64 d]] w fun e w' => e = .returned (.int .i64 (4 + b + (1 + d + b * c) + a + a + a)) ∧ Below w.heap.size w w' := by
  have HC := Lib.hid (refRight_right a b c d hr)
  have HR := Lib.hid (refRoots_right a b c d hr)
  have HX := Lib.hid (BoxAt.new w a b c d 39)
  have HB := Lib.hid (below_new w (.cells #[.int .i64 a, .int .i64 b, .int .i64 c, .int .i64 d] 39))
  have hp1 : 1 ≤ b * c := hr.prod.1
  have hp2 : b * c ≤ 4032 := hr.prod.2
  obtain ⟨ha1, ha2, hb1, hb2, hc1, hc2, hd1, hd2⟩ := hr
  have hw1 : IntKind.i64.wrap (4 + b) = 4 + b := IntWalk.i64_in _ (by omega)
  have hw2 : IntKind.i64.wrap (4 + b + (1 + d + b * c)) = 4 + b + (1 + d + b * c) := IntWalk.i64_in _ (by omega)
  have hw3 : IntKind.i64.wrap (4 + b + (1 + d + b * c) + a) = 4 + b + (1 + d + b * c) + a := IntWalk.i64_in _ (by omega)
  have hw4 : IntKind.i64.wrap (4 + b + (1 + d + b * c) + a + a) = 4 + b + (1 + d + b * c) + a + a := IntWalk.i64_in _ (by omega)
  have hw5 : IntKind.i64.wrap (4 + b + (1 + d + b * c) + a + a + a) = 4 + b + (1 + d + b * c) + a + a + a := IntWalk.i64_in _ (by omega)
  go_enter Tryz.func60, Tryz.ntmps60
  go_wp2_with fail
  refine (HC.out _).mono ?_
  rintro e W ⟨rfl, hW⟩
  have HB1 := Lib.hid (belowOn HB.out hW)
  obtain ⟨x0, x1, x2, x3⟩ := HX.out.below hW
  clear HX HB HC hW
  go_wp2_with fail
  go_region_held3 (fun w' => w'.cell? ⟨w.heap.size, 0, none⟩ = some (.int .i64 a) ∧ w'.cell? ⟨w.heap.size, 1, none⟩ = some (.int .i64 b) ∧ w'.cell? ⟨w.heap.size, 2, none⟩ = some (.int .i64 c) ∧ w'.cell? ⟨w.heap.size, 3, none⟩ = some (.int .i64 d)) (first | assumption | go_keep)
    (first
      | (go_at_call 84; refine (HR.out _).mono ?_; rintro e w' ⟨rfl, hW⟩; have hX := BoxAt.below (a := a) (b := b) (c := c) (d := d) (B := w.heap.size) (by assumption) hW))
  all_goals go_wp2_with fail
  all_goals go_ret
  all_goals exact ⟨rfl, belowOn HB1.out.drew hW⟩
end Go.Proofs.YtbpkdihonemogaaGreatDoor
/- Four numbers in one block: the cells, a store into one or into all four, what is left alone. -/
namespace Go.Proofs.YtbpkdihonemogaaGreatDoor
open Go Go.RowKit
set_option maxRecDepth 100000
/-- Four numbers lie in block B. -/
def Arr4 (w : World) (B : Nat) (t : TypeId) (x0 x1 x2 x3 : Int) : Prop := w.heap[B]? = some (.cells #[.int .i64 x0, .int .i64 x1, .int .i64 x2, .int .i64 x3] t (0, 0))
theorem Arr4.cells {w : World} {B : Nat} {t : TypeId} {x0 x1 x2 x3 : Int} (h : Arr4 w B t x0 x1 x2 x3) :
    w.cell? ⟨B, 0, none⟩ = some (.int .i64 x0) ∧ w.cell? ⟨B, 1, none⟩ = some (.int .i64 x1) ∧ w.cell? ⟨B, 2, none⟩ = some (.int .i64 x2) ∧ w.cell? ⟨B, 3, none⟩ = some (.int .i64 x3) ∧ (∀ j, w.frozen? ⟨B, j, none⟩ = false) := by
  unfold Arr4 at h
  refine ⟨by simp [World.cell?, h], by simp [World.cell?, h], by simp [World.cell?, h], by simp [World.cell?, h], fun j => by simp [World.frozen?, h]⟩
theorem Arr4.lt {w : World} {B : Nat} {t : TypeId} {x0 x1 x2 x3 : Int} (h : Arr4 w B t x0 x1 x2 x3) : B < w.heap.size := lt_of_cell h.cells.1
theorem Arr4.set {w : World} {B : Nat} {t : TypeId} {x0 x1 x2 x3 : Int} (h : Arr4 w B t x0 x1 x2 x3) (y : Int) :
    Arr4 (w.setCell ⟨B, 0, none⟩ (.int .i64 y)) B t y x1 x2 x3 ∧ Arr4 (w.setCell ⟨B, 1, none⟩ (.int .i64 y)) B t x0 y x2 x3 ∧ Arr4 (w.setCell ⟨B, 2, none⟩ (.int .i64 y)) B t x0 x1 y x3 ∧ Arr4 (w.setCell ⟨B, 3, none⟩ (.int .i64 y)) B t x0 x1 x2 y := by
  unfold Arr4 at *
  refine ⟨?_, ?_, ?_, ?_⟩ <;> simp [World.setCell, Array.getElem?_modify, h]
theorem Arr4.other {w w' : World} {B : Nat} {t : TypeId} {x0 x1 x2 x3 : Int} (h : Arr4 w B t x0 x1 x2 x3) (e : w'.heap[B]? = w.heap[B]?) : Arr4 w' B t x0 x1 x2 x3 := e.trans h
theorem Arr4.set4 {w : World} {B : Nat} {t : TypeId} {x0 x1 x2 x3 : Int} (h : Arr4 w B t x0 x1 x2 x3) (y0 y1 y2 y3 : Int) :
    Arr4 ((((w.setCell ⟨B, 0, none⟩ (.int .i64 y0)).setCell ⟨B, 1, none⟩ (.int .i64 y1)).setCell ⟨B, 2, none⟩ (.int .i64 y2)).setCell ⟨B, 3, none⟩ (.int .i64 y3)) B t y0 y1 y2 y3 :=
  ((((h.set y0).1.set y1).2.1.set y2).2.2.1.set y3).2.2.2
theorem below_set4 {w w' : World} {B : Nat} (h : Below B w w') (y0 y1 y2 y3 : Value) :
    Below B w ((((w'.setCell ⟨B, 0, none⟩ y0).setCell ⟨B, 1, none⟩ y1).setCell ⟨B, 2, none⟩ y2).setCell ⟨B, 3, none⟩ y3) :=
  (((h.setCell (p := ⟨B, 0, none⟩) (Nat.le_refl _) y0).setCell (p := ⟨B, 1, none⟩) (Nat.le_refl _) y1).setCell (p := ⟨B, 2, none⟩) (Nat.le_refl _) y2).setCell (p := ⟨B, 3, none⟩) (Nat.le_refl _) y3
theorem Arr4.new (w : World) (t : TypeId) (x0 x1 x2 x3 : Int) : Arr4 (w.alloc (.cells #[.int .i64 x0, .int .i64 x1, .int .i64 x2, .int .i64 x3] t)) w.heap.size t x0 x1 x2 x3 := by
  unfold Arr4 World.alloc; exact Array.getElem?_push_size
theorem Arr4.below {w w' : World} {B : Nat} {t : TypeId} {x0 x1 x2 x3 : Int} (h : Arr4 w B t x0 x1 x2 x3) (hb : Below w.heap.size w w') : Arr4 w' B t x0 x1 x2 x3 := h.other (hb.block _ h.lt)
theorem below_far4 {w w' : World} {B C : Nat} (h : Below B w w') (hC : B ≤ C) (y0 y1 y2 y3 : Value) :
    Below B w ((((w'.setCell ⟨C, 0, none⟩ y0).setCell ⟨C, 1, none⟩ y1).setCell ⟨C, 2, none⟩ y2).setCell ⟨C, 3, none⟩ y3) :=
  (((h.setCell hC _).setCell hC _).setCell hC _).setCell hC _
end Go.Proofs.YtbpkdihonemogaaGreatDoor
