/- Laid together: Cfg, Frame, Rounds, Place, WArgs, Tk, Arena, ArenaRows. -/
import Derived.Test.YtbpooljohjkbjaaGreatDoorProg
import Derived.WalkKit
import Derived.WalkSmall
import Derived.IntWalk
import Derived.BigCall
import Derived.Lib.Hide
import Derived.Test.YtbpooljohjkbjaaGreatDoorCards
import Derived.Test.YtbpooljohjkbjaaGreatDoorTie
import Derived.ProofKit
import Derived.LaidMore
import Derived.Lay
import Derived.OpenShut
import Derived.HandedShaped
import Derived.Shelf.Vars
import Derived.Stop.Joined
import Derived.Lib.LaidTab
import Derived.Lib.SmallJoins
import Derived.Below
import Derived.ChangeSame
import Derived.Deep.RegionHeld3
import Derived.Deep.DrawnRows
import Derived.Laws.LoneSync
import Derived.Laws.Pointers
import Derived.Deep.OwnRows
import Derived.OwnWalk
import Derived.WalkSpells
import Derived.RegionTactic
/- Package config's numbers, Check and sum: for every configuration whether it is right; for a few small numbers their sum; of what was there nothing has turned. -/
namespace Go.Proofs.YtbpooljohjkbjaaGreatDoor
open Go Go.RowKit
set_option maxRecDepth 100000
def Right (a b c d : Int) : Prop := 2 ≤ a ∧ a ≤ 4096 ∧ 1 ≤ b ∧ b ≤ 63 ∧ 1 ≤ c ∧ c ≤ 64 ∧ 0 ≤ d ∧ d ≤ 64
def SpansAt (w : World) : Prop :=
  (w.cell? ⟨0, 0, none⟩ = some (.string ⟨#[99, 101, 108, 108, 115]⟩) ∧ w.cell? ⟨0, 1, none⟩ = some (.int .i64 2) ∧ w.cell? ⟨0, 2, none⟩ = some (.int .i64 4096)) ∧
  (w.cell? ⟨0, 3, none⟩ = some (.string ⟨#[109, 117, 116, 115]⟩) ∧ w.cell? ⟨0, 4, none⟩ = some (.int .i64 1) ∧ w.cell? ⟨0, 5, none⟩ = some (.int .i64 63)) ∧
  (w.cell? ⟨0, 6, none⟩ = some (.string ⟨#[114, 101, 103, 115]⟩) ∧ w.cell? ⟨0, 7, none⟩ = some (.int .i64 1) ∧ w.cell? ⟨0, 8, none⟩ = some (.int .i64 64)) ∧
  (w.cell? ⟨0, 9, none⟩ = some (.string ⟨#[103, 108, 111, 98, 115]⟩) ∧ w.cell? ⟨0, 10, none⟩ = some (.int .i64 0) ∧ w.cell? ⟨0, 11, none⟩ = some (.int .i64 64))
theorem lt_of_cell {w : World} {b off : Nat} {v : Value} (h : w.cell? ⟨b, off, none⟩ = some v) : b < w.heap.size := by
  rcases Nat.lt_or_ge b w.heap.size with h' | h'
  · exact h'
  · simp [World.cell?, Array.getElem?_eq_none h'] at h
theorem SpansAt.below {w w' : World} (h : SpansAt w) (hb : Below w.heap.size w w') : SpansAt w' := by
  have hl := lt_of_cell h.1.1
  have key : ∀ j v, w.cell? ⟨0, j, none⟩ = some v → w'.cell? ⟨0, j, none⟩ = some v := fun j v e => (hb.cell (p := ⟨_, j, none⟩) hl).trans e
  obtain ⟨⟨a1, a2, a3⟩, ⟨b1, b2, b3⟩, ⟨c1, c2, c3⟩, ⟨d1, d2, d3⟩⟩ := h
  exact ⟨⟨key _ _ a1, key _ _ a2, key _ _ a3⟩, ⟨key _ _ b1, key _ _ b2, key _ _ b3⟩, ⟨key _ _ c1, key _ _ c2, key _ _ c3⟩, ⟨key _ _ d1, key _ _ d2, key _ _ d3⟩⟩
theorem below_new (w : World) (o : Obj) : Below w.heap.size w (w.alloc o) := (Below.refl _ w).alloc (Nat.le_refl _) _
theorem below_on {w w' : World} (h : Below w.heap.size w w') (o : Obj) : Below w.heap.size w (w'.alloc o) := h.trans ((below_new w' o).mono h.size)
theorem belowOn {w w1 w2 : World} (h : Below w.heap.size w w1) (h2 : Below w1.heap.size w1 w2) : Below w.heap.size w w2 := h.trans (h2.mono h.size)
theorem numbers_c (a b c d : Int) (w : World) :
    Calls Tryz.prog 113 #[.agg #[.int .i64 a, .int .i64 b, .int .i64 c, .int .i64 d]] w fun e w' => e = .returned (.agg #[.int .i64 a, .int .i64 b, .int .i64 c, .int .i64 d]) ∧ Below w.heap.size w w' := by
  go_enter Tryz.func113, Tryz.ntmps113
  go_wp2
  refine bodyPost_ret (v := .agg #[.int .i64 a, .int .i64 b, .int .i64 c, .int .i64 d]) (by simp [results, Tryz.f113, go_sem]) rfl ?_
  exact ⟨rfl, below_on (below_new _ _) _⟩
theorem index0 (a b c d : Int) (W : World) : (Instr.index 174 (.agg #[.int .i64 a, .int .i64 b, .int .i64 c, .int .i64 d]) (.int .i64 0)).run Tryz.prog W = .ok (.int .i64 a) W := by kernel_rfl
theorem index1 (a b c d : Int) (W : World) : (Instr.index 174 (.agg #[.int .i64 a, .int .i64 b, .int .i64 c, .int .i64 d]) (.int .i64 1)).run Tryz.prog W = .ok (.int .i64 b) W := by kernel_rfl
theorem index2 (a b c d : Int) (W : World) : (Instr.index 174 (.agg #[.int .i64 a, .int .i64 b, .int .i64 c, .int .i64 d]) (.int .i64 2)).run Tryz.prog W = .ok (.int .i64 c) W := by kernel_rfl
theorem index3 (a b c d : Int) (W : World) : (Instr.index 174 (.agg #[.int .i64 a, .int .i64 b, .int .i64 c, .int .i64 d]) (.int .i64 3)).run Tryz.prog W = .ok (.int .i64 d) W := by kernel_rfl
def rightTo (a b c d : Int) (k : Nat) : Prop := (0 < k → 2 ≤ a ∧ a ≤ 4096) ∧ (1 < k → 1 ≤ b ∧ b ≤ 63) ∧ (2 < k → 1 ≤ c ∧ c ≤ 64) ∧ (3 < k → 0 ≤ d ∧ d ≤ 64)
set_option maxHeartbeats 3200000 in
theorem check_any (a b c d : Int) (w : World) (hS : SpansAt w) :
    Calls Tryz.prog 81 #[.agg #[.int .i64 a, .int .i64 b, .int .i64 c, .int .i64 d]] w fun e w' => ∃ r : Int, e = .returned (.int .i64 r) ∧ (Right a b c d ∧ r = 0 ∨ ¬ Right a b c d ∧ r = 2) ∧ Below w.heap.size w w' := by
  have HS := Lib.hid hS; clear hS
  have HW := Lib.hid (below_new w (.cells #[.int .i64 a, .int .i64 b, .int .i64 c, .int .i64 d] 23))
  go_enter Tryz.func81, Tryz.ntmps81
  go_wp2_with fail
  refine (numbers_c a b c d _).mono ?_
  rintro e W ⟨rfl, hW⟩
  have hB := belowOn HW.out hW
  have HS1 := Lib.hid (HS.out.below hB)
  have HB := Lib.hid hB
  clear hW hB HS HW
  go_wp2_with fail
  obtain ⟨⟨a1, a2, a3⟩, ⟨b1, b2, b3⟩, ⟨c1, c2, c3⟩, ⟨d1, d2, d3⟩⟩ := HS1.out
  have i0 := index0 a b c d; have i1 := index1 a b c d; have i2 := index2 a b c d; have i3 := index3 a b c d
  go_loop [7] (fun vi => ∃ k : Nat, vi = .int .i64 k ∧ k ≤ 4 ∧ Hid (rightTo a b c d k)) (fun vi => 4 - (intOf vi).toNat)
  case atStart => exact ⟨0, rfl, by omega, Lib.hid ⟨by omega, by omega, by omega, by omega⟩⟩
  case round =>
    obtain ⟨k, rfl, hk, HR⟩ := hrel
    obtain rfl | rfl | rfl | rfl | rfl : k = 0 ∨ k = 1 ∨ k = 2 ∨ k = 3 ∨ k = 4 := by omega
    · by_cases h1 : a < 2
      · have HN : Hid (¬ Right a b c d) := Lib.hid (fun h => by unfold Right at h; omega)
        clear HR HS1
        go_wp2
        go_ret
        exact ⟨2, rfl, .inr ⟨HN.out, rfl⟩, HB.out⟩
      · by_cases h2 : 4096 < a
        · have HN : Hid (¬ Right a b c d) := Lib.hid (fun h => by unfold Right at h; omega)
          clear HR HS1
          go_wp2
          go_ret
          exact ⟨2, rfl, .inr ⟨HN.out, rfl⟩, HB.out⟩
        · have HN : Hid (rightTo a b c d 1) := Lib.hid (by have := HR.out; unfold rightTo at *; omega)
          clear HR HS1
          go_wp2
          go_round
          case rel => exact ⟨1, by go_num, by omega, HN⟩
          case measure => simp [intOf]
    · by_cases h1 : b < 1
      · have HN : Hid (¬ Right a b c d) := Lib.hid (fun h => by unfold Right at h; omega)
        clear HR HS1
        go_wp2
        go_ret
        exact ⟨2, rfl, .inr ⟨HN.out, rfl⟩, HB.out⟩
      · by_cases h2 : 63 < b
        · have HN : Hid (¬ Right a b c d) := Lib.hid (fun h => by unfold Right at h; omega)
          clear HR HS1
          go_wp2
          go_ret
          exact ⟨2, rfl, .inr ⟨HN.out, rfl⟩, HB.out⟩
        · have HN : Hid (rightTo a b c d 2) := Lib.hid (by have := HR.out; unfold rightTo at *; omega)
          clear HR HS1
          go_wp2
          go_round
          case rel => exact ⟨2, by go_num, by omega, HN⟩
          case measure => simp [intOf]
    · by_cases h1 : c < 1
      · have HN : Hid (¬ Right a b c d) := Lib.hid (fun h => by unfold Right at h; omega)
        clear HR HS1
        go_wp2
        go_ret
        exact ⟨2, rfl, .inr ⟨HN.out, rfl⟩, HB.out⟩
      · by_cases h2 : 64 < c
        · have HN : Hid (¬ Right a b c d) := Lib.hid (fun h => by unfold Right at h; omega)
          clear HR HS1
          go_wp2
          go_ret
          exact ⟨2, rfl, .inr ⟨HN.out, rfl⟩, HB.out⟩
        · have HN : Hid (rightTo a b c d 3) := Lib.hid (by have := HR.out; unfold rightTo at *; omega)
          clear HR HS1
          go_wp2
          go_round
          case rel => exact ⟨3, by go_num, by omega, HN⟩
          case measure => simp [intOf]
    · by_cases h1 : d < 0
      · have HN : Hid (¬ Right a b c d) := Lib.hid (fun h => by unfold Right at h; omega)
        clear HR HS1
        go_wp2
        go_ret
        exact ⟨2, rfl, .inr ⟨HN.out, rfl⟩, HB.out⟩
      · by_cases h2 : 64 < d
        · have HN : Hid (¬ Right a b c d) := Lib.hid (fun h => by unfold Right at h; omega)
          clear HR HS1
          go_wp2
          go_ret
          exact ⟨2, rfl, .inr ⟨HN.out, rfl⟩, HB.out⟩
        · have HN : Hid (rightTo a b c d 4) := Lib.hid (by have := HR.out; unfold rightTo at *; omega)
          clear HR HS1
          go_wp2
          go_round
          case rel => exact ⟨4, by go_num, by omega, HN⟩
          case measure => simp [intOf]
    · have HN : Hid (Right a b c d) := Lib.hid (by have := HR.out; unfold rightTo at this; unfold Right; omega)
      clear HR HS1
      go_wp2
      go_ret
      exact ⟨0, rfl, .inl ⟨HN.out, rfl⟩, HB.out⟩
theorem check_right (a b c d : Int) (hr : Right a b c d) (w : World) (hS : SpansAt w) :
    Calls Tryz.prog 81 #[.agg #[.int .i64 a, .int .i64 b, .int .i64 c, .int .i64 d]] w fun e w' => e = .returned (.int .i64 0) ∧ Below w.heap.size w w' :=
  (check_any a b c d w hS).mono fun e w' ⟨r, he, hx, hb⟩ => by
    rcases hx with ⟨_, rfl⟩ | ⟨hn, _⟩
    · exact ⟨he, hb⟩
    · exact absurd hr hn
theorem check_wrong (a b c d : Int) (hr : ¬ Right a b c d) (w : World) (hS : SpansAt w) :
    Calls Tryz.prog 81 #[.agg #[.int .i64 a, .int .i64 b, .int .i64 c, .int .i64 d]] w fun e w' => e = .returned (.int .i64 2) ∧ Below w.heap.size w w' :=
  (check_any a b c d w hS).mono fun e w' ⟨r, he, hx, hb⟩ => by
    rcases hx with ⟨hn, _⟩ | ⟨_, rfl⟩
    · exact absurd hn hr
    · exact ⟨he, hb⟩
/- sum -/
def sumTo (zs : List Int) (k : Nat) : Int := (zs.take k).sum
theorem sumTo_next (zs : List Int) (k : Nat) (h : k < zs.length) : sumTo zs (k + 1) = sumTo zs k + zs.getD k 0 := by
  unfold sumTo
  rw [List.take_succ_eq_append_getElem h, List.sum_append]
  simp [List.getD, List.getElem?_eq_getElem h]
theorem sumTo_le (zs : List Int) (hz : ∀ x ∈ zs, 0 ≤ x ∧ x ≤ 100000) (k : Nat) : 0 ≤ sumTo zs k ∧ sumTo zs k ≤ 100000 * (k : Int) := by
  induction k with
  | zero => simp [sumTo]
  | succ k ih =>
    by_cases h : k < zs.length
    · rw [sumTo_next zs k h]
      have := hz (zs.getD k 0) (by simp [List.getD, List.getElem?_eq_getElem h])
      omega
    · have : sumTo zs (k + 1) = sumTo zs k := by
        unfold sumTo
        rw [List.take_of_length_le (by omega), List.take_of_length_le (by omega)]
      rw [this]; omega
theorem sum_c (zs : List Int) (hl : zs.length ≤ 4) (hz : ∀ x ∈ zs, 0 ≤ x ∧ x ≤ 100000) (b cap : Nat) (w : World) (hr : ∀ j, j < zs.length → w.cell? ⟨b, j, none⟩ = some (.int .i64 (zs.getD j 0))) :
    Calls Tryz.prog 116 #[.slice (some ⟨b, 0, none⟩) zs.length cap] w fun e w' => e = .returned (.int .i64 zs.sum) ∧ w = w' := by
  have HZ := Lib.hid hz; have HR := Lib.hid hr; clear hz hr
  go_enter Tryz.func116, Tryz.ntmps116
  go_wp2
  go_loop [3, 8] (fun vs vi => ∃ (k : Nat) (s : Int), vi = .int .i64 k ∧ k ≤ zs.length ∧ vs = .int .i64 s ∧ 0 ≤ s ∧ s ≤ 400000 ∧ Hid (s = sumTo zs k)) (fun _ vi => zs.length - (intOf vi).toNat)
  case atStart => exact ⟨0, 0, rfl, Nat.zero_le _, rfl, by omega, by omega, Lib.hid (by simp [sumTo])⟩
  case round =>
    obtain ⟨k, s, rfl, hk, rfl, h0, h1, HE⟩ := hrel
    by_cases hlt : k < zs.length
    · have hc := HR.out k hlt
      have hle := sumTo_le zs HZ.out (k + 1)
      have hx := HZ.out (zs.getD k 0) (by simp [List.getD, List.getElem?_eq_getElem hlt])
      have HN : Hid (s + zs.getD k 0 = sumTo zs (k + 1)) := Lib.hid (by rw [sumTo_next zs k hlt, ← HE.out])
      rw [← HN.out] at hle
      generalize zs.getD k 0 = x at *
      have hle1 : 0 ≤ s + x := hle.1
      have hle2 : s + x ≤ 400000 := by omega
      clear hle HE
      go_wp2
      go_round
      case rel => exact ⟨k + 1, s + x, by go_num, by omega, by go_num, by omega, by omega, HN⟩
      case measure => simp [intOf]; omega
    · obtain rfl : k = zs.length := by omega
      have HN : Hid (s = zs.sum) := Lib.hid (by rw [HE.out]; simp [sumTo])
      clear HE
      go_wp2
      go_ret
      refine ⟨?_, rfl⟩
      rw [← HN.out]; rfl
end Go.Proofs.YtbpooljohjkbjaaGreatDoor
/- Small lemmas that the cards of this seat share: the row's last step where the world has only grown; the row's wrap that hands on the world's shape too; what the table of spans holds, cell for cell; a configuration as data. -/
namespace Go.Proofs.YtbpooljohjkbjaaGreatDoor
open Go Go.RowKit Go.WideShapes Go.ChangeShapes
section
variable {H : Type} {enc : TypeId × Value → H} {P : Program}
theorem span_cells {w : World} {bs : Nat} {sp : Nat → Bool} {held : Bool} {fuel : Nat} {t ts ti : TypeId} {f0 f1 f2 : Field} {cs : List Value} {z : List UInt8} {a b : Int} {x : DataW H × List MemPlace}
    (ht : P.underlying t = some (.struct #[f0, f1, f2])) (e0 : f0.type = ts ∧ f0.offset = 0) (e1 : f1.type = ti ∧ f1.offset = 1) (e2 : f2.type = ti ∧ f2.offset = 2) (hs : P.underlying ts = some .string) (hi : P.underlying ti = some (.int .i64))
    (cS : P.cellsOf ts = 1) (cI : P.cellsOf ti = 1) (h : DataW.trod enc P w bs sp held fuel t cs = some x) (hx : x.1 = .agg [.lit (.string z), .lit (.int .i64 a), .lit (.int .i64 b)]) :
    cs[0]? = some (.string ⟨z.toArray⟩) ∧ cs[1]? = some (.int .i64 a) ∧ cs[2]? = some (.int .i64 b) := by
  obtain ⟨xs, n, _, rfl, _, hl, hf⟩ := DataW.trod_struct ht h
  have g0 := hf 0 f0 rfl
  have g1 := hf 1 f1 rfl
  have g2 := hf 2 f2 rfl
  simp only [e0.1, e0.2, e1.1, e1.2, e2.1, e2.2, cS, cI] at g0 g1 g2
  simp only [DataW.agg.injEq] at hx
  match xs, hx with
  | [y0, y1, y2], hx =>
    simp only [List.map_cons, List.map_nil, List.cons.injEq, and_true] at hx
    obtain ⟨h0, h1, h2⟩ := hx
    obtain ⟨s, c0, d0, _⟩ := DataW.trod_string hs (g0.trans rfl)
    obtain ⟨p, c1, d1, _⟩ := DataW.trod_int hi (g1.trans rfl)
    obtain ⟨q, c2, d2, _⟩ := DataW.trod_int hi (g2.trans rfl)
    rw [d0] at h0; rw [d1] at h1; rw [d2] at h2
    simp only [DataW.lit.injEq, Lit.string.injEq, Lit.int.injEq, true_and] at h0 h1 h2
    subst h1 h2
    have k0 := congrArg (·[0]?) c0
    have k1 := congrArg (·[0]?) c1
    have k2 := congrArg (·[0]?) c2
    simp [List.getElem?_drop] at k0 k1 k2
    refine ⟨?_, k1, k2⟩
    rw [k0, ← h0]
end
theorem own : ownKnob Tryz.prog.godebug = none := by kernel_rfl
theorem cellsString : Tryz.prog.cellsOf 9 = 1 := by kernel_rfl
theorem cellsInt : Tryz.prog.cellsOf 3 = 1 := by kernel_rfl
theorem cellsSpan : Tryz.prog.cellsOf 177 = 3 := by kernel_rfl
theorem gSpans : Tryz.prog.globalNamed "mudlark/config.spans" = some 0 := by kernel_rfl
theorem gSpansType : (Tryz.prog.globals[0]?).map (·.type) = some 178 := by kernel_rfl
theorem spansAt {W : World} {rest : List (String × DataW Unit)} (h : laidMet Tryz.prog (("mudlark/config.spans", Rows.laid_mudlark_config_spans) :: rest) W) : SpansAt W := by
  obtain ⟨ps, ⟨g', t', cs, fuel, p, q, hg', ht', hvar, hd, _, _⟩, _⟩ := h
  obtain rfl := Option.some.inj (gSpans.symm.trans hg')
  obtain rfl := Option.some.inj (gSpansType.symm.trans ht')
  obtain ⟨xs, m, _, ex, _, hl, hel⟩ := DataW.trod_array Tryz.underlying178 hd
  have e3 : xs.map (·.1) = _ := (DataW.agg.inj (Prod.mk.inj ex).1).symm
  match xs, e3 with
  | [y0, y1, y2, y3], e3 =>
    simp only [List.map_cons, List.map_nil, List.cons.injEq, and_true] at e3
    obtain ⟨h0, h1, h2, h3⟩ := e3
    have hc := fun i => World.var?_cell gSpans hvar i
    have r0 := span_cells Tryz.underlying177 ⟨rfl, rfl⟩ ⟨rfl, rfl⟩ ⟨rfl, rfl⟩ Tryz.underlying9 Tryz.underlying3 cellsString cellsInt ((hel 0 (by omega)).trans rfl) h0
    have r1 := span_cells Tryz.underlying177 ⟨rfl, rfl⟩ ⟨rfl, rfl⟩ ⟨rfl, rfl⟩ Tryz.underlying9 Tryz.underlying3 cellsString cellsInt ((hel 1 (by omega)).trans rfl) h1
    have r2 := span_cells Tryz.underlying177 ⟨rfl, rfl⟩ ⟨rfl, rfl⟩ ⟨rfl, rfl⟩ Tryz.underlying9 Tryz.underlying3 cellsString cellsInt ((hel 2 (by omega)).trans rfl) h2
    have r3 := span_cells Tryz.underlying177 ⟨rfl, rfl⟩ ⟨rfl, rfl⟩ ⟨rfl, rfl⟩ Tryz.underlying9 Tryz.underlying3 cellsString cellsInt ((hel 3 (by omega)).trans rfl) h3
    simp only [cellsSpan, List.getElem?_take, List.getElem?_drop] at r0 r1 r2 r3
    simp at r0 r1 r2 r3
    refine ⟨⟨(hc 0).trans ?_, (hc 1).trans ?_, (hc 2).trans ?_⟩, ⟨(hc 3).trans ?_, (hc 4).trans ?_, (hc 5).trans ?_⟩, ⟨(hc 6).trans ?_, (hc 7).trans ?_, (hc 8).trans ?_⟩, ⟨(hc 9).trans ?_, (hc 10).trans ?_, (hc 11).trans ?_⟩⟩
    · exact r0.1
    · exact r0.2.1
    · exact r0.2.2
    · exact r1.1
    · exact r1.2.1
    · exact r1.2.2
    · exact r2.1
    · exact r2.2.1
    · exact r2.2.2
    · exact r3.1
    · exact r3.2.1
    · exact r3.2.2
theorem cellsCfg : Tryz.prog.cellsOf 23 = 4 := by kernel_rfl
section
open Go.Joins Go.Deep
end
end Go.Proofs.YtbpooljohjkbjaaGreatDoor
/- Package config's Roots, Words, OpRounds and CycleRounds, for every configuration: of a right one as the document counts them, of any other 0. -/
namespace Go.Proofs.YtbpooljohjkbjaaGreatDoor
open Go Go.RowKit
set_option maxRecDepth 100000
attribute [local go_sem ↓] Go.wp_at_zero Go.wp_at_succ
theorem Right.prod {a b c d : Int} (h : Right a b c d) : 1 ≤ b * c ∧ b * c ≤ 4032 := by
  obtain ⟨_, _, h1, h2, h3, h4, _, _⟩ := h
  have l : 1 * 1 ≤ b * c := Int.mul_le_mul h1 h3 (by omega) (by omega)
  have u : b * c ≤ 63 * 64 := Int.mul_le_mul h2 h4 (by omega) (by omega)
  omega
theorem sum3_c (x y z : Int) (hx : 0 ≤ x ∧ x ≤ 100000) (hy : 0 ≤ y ∧ y ≤ 100000) (hz : 0 ≤ z ∧ z ≤ 100000) (B cap : Nat) (w : World) (h0 : w.cell? ⟨B, 0, none⟩ = some (.int .i64 x)) (h1 : w.cell? ⟨B, 1, none⟩ = some (.int .i64 y)) (h2 : w.cell? ⟨B, 2, none⟩ = some (.int .i64 z)) :
    Calls Tryz.prog 116 #[.slice (some ⟨B, 0, none⟩) 3 cap] w fun e w' => e = .returned (.int .i64 (x + y + z)) ∧ w = w' := by
  have h := sum_c [x, y, z] (by simp) (by simp; omega) B cap w (fun j hj => by
    obtain rfl | rfl | rfl : j = 0 ∨ j = 1 ∨ j = 2 := by simp at hj; omega
    · exact h0
    · exact h1
    · exact h2)
  rwa [show ([x, y, z] : List Int).sum = x + y + z by simp; omega] at h
theorem sum4_c (x y z u : Int) (hx : 0 ≤ x ∧ x ≤ 100000) (hy : 0 ≤ y ∧ y ≤ 100000) (hz : 0 ≤ z ∧ z ≤ 100000) (hu : 0 ≤ u ∧ u ≤ 100000) (B cap : Nat) (w : World) (h0 : w.cell? ⟨B, 0, none⟩ = some (.int .i64 x)) (h1 : w.cell? ⟨B, 1, none⟩ = some (.int .i64 y)) (h2 : w.cell? ⟨B, 2, none⟩ = some (.int .i64 z)) (h3 : w.cell? ⟨B, 3, none⟩ = some (.int .i64 u)) :
    Calls Tryz.prog 116 #[.slice (some ⟨B, 0, none⟩) 4 cap] w fun e w' => e = .returned (.int .i64 (x + y + z + u)) ∧ w = w' := by
  have h := sum_c [x, y, z, u] (by simp) (by simp; omega) B cap w (fun j hj => by
    obtain rfl | rfl | rfl | rfl : j = 0 ∨ j = 1 ∨ j = 2 ∨ j = 3 := by simp at hj; omega
    · exact h0
    · exact h1
    · exact h2
    · exact h3)
  rwa [show ([x, y, z, u] : List Int).sum = x + y + z + u by simp; omega] at h
abbrev BoxAt (w : World) (B : Nat) (a b c d : Int) : Prop := w.cell? ⟨B, 0, none⟩ = some (.int .i64 a) ∧ w.cell? ⟨B, 1, none⟩ = some (.int .i64 b) ∧ w.cell? ⟨B, 2, none⟩ = some (.int .i64 c) ∧ w.cell? ⟨B, 3, none⟩ = some (.int .i64 d)
theorem BoxAt.new (w : World) (a b c d : Int) (t : TypeId) : BoxAt (w.alloc (.cells #[.int .i64 a, .int .i64 b, .int .i64 c, .int .i64 d] t)) w.heap.size a b c d := by
  unfold BoxAt
  refine ⟨?_, ?_, ?_, ?_⟩ <;> (rw [World.cell?_alloc_new]; rfl)
theorem BoxAt.below {w w' : World} {B : Nat} {a b c d : Int} (h : BoxAt w B a b c d) (hb : Below w.heap.size w w') : BoxAt w' B a b c d := by
  have hl := lt_of_cell h.1
  exact ⟨(hb.cell (p := ⟨B, 0, none⟩) hl).trans h.1, (hb.cell (p := ⟨B, 1, none⟩) hl).trans h.2.1, (hb.cell (p := ⟨B, 2, none⟩) hl).trans h.2.2.1, (hb.cell (p := ⟨B, 3, none⟩) hl).trans h.2.2.2⟩
theorem roots_right (a b c d : Int) (hr : Right a b c d) (w : World) (hS : SpansAt w) :
    Calls Tryz.prog 117 #[.agg #[.int .i64 a, .int .i64 b, .int .i64 c, .int .i64 d]] w fun e w' => e = .returned (.int .i64 (1 + d + b * c)) ∧ Below w.heap.size w w' := by
  have hb := below_new w (.cells #[.int .i64 a, .int .i64 b, .int .i64 c, .int .i64 d] 23)
  have HC := Lib.hid (check_right a b c d hr _ (hS.below hb))
  have HX := Lib.hid (BoxAt.new w a b c d 23)
  have HB := Lib.hid hb
  have hp := hr.prod
  have hp1 : 1 ≤ b * c := hp.1
  have hp2 : b * c ≤ 4032 := hp.2
  have hd1 : 0 ≤ d := hr.2.2.2.2.2.2.1
  have hd2 : d ≤ 64 := hr.2.2.2.2.2.2.2
  clear hS hb hp hr
  go_enter Tryz.func117, Tryz.ntmps117
  go_wp2_with fail
  refine HC.out.mono ?_
  rintro e W ⟨rfl, hW⟩
  have HB1 := Lib.hid (belowOn HB.out hW)
  obtain ⟨x0, x1, x2, x3⟩ := HX.out.below hW
  clear HX HB HC hW
  go_wp2_with fail
  refine (sum3_c 1 d (b * c) (by omega) (by omega) (by omega) _ _ _ (World.cell?_alloc_new ..) (World.cell?_alloc_new ..) (World.cell?_alloc_new ..)).mono ?_
  rintro e w' ⟨rfl, rfl⟩
  go_wp2_with fail
  go_ret
  exact ⟨rfl, below_on HB1.out _⟩
theorem roots_wrong (a b c d : Int) (hr : ¬ Right a b c d) (w : World) (hS : SpansAt w) :
    Calls Tryz.prog 117 #[.agg #[.int .i64 a, .int .i64 b, .int .i64 c, .int .i64 d]] w fun e w' => e = .returned (.int .i64 0) ∧ Below w.heap.size w w' := by
  have hb := below_new w (.cells #[.int .i64 a, .int .i64 b, .int .i64 c, .int .i64 d] 23)
  have HC := Lib.hid (check_wrong a b c d hr _ (hS.below hb))
  have HB := Lib.hid hb
  clear hS hb hr
  go_enter Tryz.func117, Tryz.ntmps117
  go_wp2_with fail
  refine HC.out.mono ?_
  rintro e W ⟨rfl, hW⟩
  have HB1 := Lib.hid (belowOn HB.out hW)
  clear HB HC hW
  go_wp2_with fail
  go_ret
  exact ⟨rfl, HB1.out⟩
theorem words_wrong (a b c d : Int) (hr : ¬ Right a b c d) (w : World) (hS : SpansAt w) :
    Calls Tryz.prog 99 #[.agg #[.int .i64 a, .int .i64 b, .int .i64 c, .int .i64 d]] w fun e w' => e = .returned (.int .i64 0) ∧ Below w.heap.size w w' := by
  have hb := below_new w (.cells #[.int .i64 a, .int .i64 b, .int .i64 c, .int .i64 d] 23)
  have HC := Lib.hid (check_wrong a b c d hr _ (hS.below hb))
  have HB := Lib.hid hb
  clear hS hb hr
  go_enter Tryz.func99, Tryz.ntmps99
  go_wp2_with fail
  refine HC.out.mono ?_
  rintro e W ⟨rfl, hW⟩
  have HB1 := Lib.hid (belowOn HB.out hW)
  clear HB HC hW
  go_wp2_with fail
  go_ret
  exact ⟨rfl, HB1.out⟩
set_option maxHeartbeats 3200000 in
theorem words_right (a b c d : Int) (hr : Right a b c d) (w : World) (hS : SpansAt w) :
    Calls Tryz.prog 99 #[.agg #[.int .i64 a, .int .i64 b, .int .i64 c, .int .i64 d]] w fun e w' => e = .returned (.int .i64 (4 + b + (1 + d + b * c) + 3 * a)) ∧ Below w.heap.size w w' := by
  have hb := below_new w (.cells #[.int .i64 a, .int .i64 b, .int .i64 c, .int .i64 d] 23)
  have HC := Lib.hid (check_right a b c d hr _ (hS.below hb))
  have HX := Lib.hid (BoxAt.new w a b c d 23)
  have HR := Lib.hid (roots_right a b c d hr)
  have HB := Lib.hid hb
  have hp1 : 1 ≤ b * c := hr.prod.1
  have hp2 : b * c ≤ 4032 := hr.prod.2
  obtain ⟨ha1, ha2, hb1, hb2, hc1, hc2, hd1, hd2⟩ := hr
  have HS := Lib.hid (hS.below hb)
  clear hS hb
  go_enter Tryz.func99, Tryz.ntmps99
  go_wp2_with fail
  refine HC.out.mono ?_
  rintro e W ⟨rfl, hW⟩
  have HB1 := Lib.hid (belowOn HB.out hW)
  have HS1 := Lib.hid (HS.out.below hW)
  obtain ⟨x0, x1, x2, x3⟩ := HX.out.below hW
  clear HX HB HC HS hW
  have hw : IntKind.i64.wrap (3 * a) = 3 * a := IntWalk.i64_in _ (by omega)
  go_wp2_with fail
  go_region_held3 (fun w' => w'.cell? ⟨w.heap.size, 0, none⟩ = some (.int .i64 a) ∧ w'.cell? ⟨w.heap.size, 1, none⟩ = some (.int .i64 b) ∧ w'.cell? ⟨w.heap.size, 2, none⟩ = some (.int .i64 c) ∧ w'.cell? ⟨w.heap.size, 3, none⟩ = some (.int .i64 d)) (first | assumption | go_keep)
    (first
      | (go_at_call 117; refine (HR.out _ ?_).mono ?_; exact HS1.out; rintro e w' ⟨rfl, hW⟩; have hX := BoxAt.below (a := a) (b := b) (c := c) (d := d) (B := w.heap.size) (by assumption) hW)
      | (go_at_call 116; refine (sum4_c 4 b (1 + d + b * c) (3 * a) ?_ ?_ ?_ ?_ _ _ _ (World.cell?_alloc_new ..) (World.cell?_alloc_new ..) (World.cell?_alloc_new ..) (World.cell?_alloc_new ..)).mono ?_; omega; omega; omega; omega; rintro e w' ⟨rfl, rfl⟩))
  all_goals go_wp2_with fail
  all_goals go_ret
  exact ⟨rfl, below_on (belowOn HB1.out.drew hW) _⟩
end Go.Proofs.YtbpooljohjkbjaaGreatDoor
/- Package place's small calls, for every configuration (right or not) and every number: where a row of words begins, the place of a number in a row, In, Glob, Reg, Car, Cdr, Colour, Root, Size and New. -/
namespace Go.Proofs.YtbpooljohjkbjaaGreatDoor
open Go Go.RowKit
set_option maxRecDepth 100000
attribute [local go_sem ↓] Go.wp_at_zero Go.wp_at_succ
instance (a b c d : Int) : Decidable (Right a b c d) := by unfold Right; infer_instance
def fGlob (b : Int) : Int := IntKind.i64.wrap (5 + b)
def fReg (b d : Int) : Int := IntKind.i64.wrap (fGlob b + d)
def fCell (b c d : Int) : Int := IntKind.i64.wrap (fReg b d + IntKind.i64.wrap (b * c))
theorem fGlob_right {a b c d : Int} (h : Right a b c d) : fGlob b = 5 + b := by unfold Right at h; exact IntWalk.i64_in _ (by omega)
theorem fReg_right {a b c d : Int} (h : Right a b c d) : fReg b d = 5 + b + d := by unfold fReg; rw [fGlob_right h]; unfold Right at h; exact IntWalk.i64_in _ (by omega)
theorem fCell_right {a b c d : Int} (h : Right a b c d) : fCell b c d = 5 + b + d + b * c := by
  have hp := h.prod
  unfold fCell; rw [fReg_right h, IntWalk.i64_in (b * c) (by omega)]; unfold Right at h; exact IntWalk.i64_in _ (by omega)
def plc (a b c d first i count : Int) : Int := if (0 ≤ i ∧ i < count) ∧ Right a b c d then IntKind.i64.wrap (first + i) else -1
theorem within_yes (i n : Int) (h0 : 0 ≤ i) (h1 : i < n) (w : World) :
    Calls Tryz.prog 119 #[.int .i64 i, .int .i64 n] w fun e w' => e = .returned (.bool true) ∧ w = w' := by
  go_enter Tryz.func119, Tryz.ntmps119
  go_wp2
  go_ret
  exact ⟨rfl, rfl⟩
theorem within_no (i n : Int) (h : ¬ (0 ≤ i ∧ i < n)) (w : World) :
    Calls Tryz.prog 119 #[.int .i64 i, .int .i64 n] w fun e w' => e = .returned (.bool false) ∧ w = w' := by
  by_cases h0 : 0 ≤ i
  · have h1 : ¬ i < n := fun h1 => h ⟨h0, h1⟩
    clear h
    go_enter Tryz.func119, Tryz.ntmps119
    go_wp2
    go_ret
    exact ⟨rfl, rfl⟩
  · clear h
    go_enter Tryz.func119, Tryz.ntmps119
    go_wp2
    go_ret
    exact ⟨rfl, rfl⟩
theorem firstIn_c (a b c d : Int) (w : World) :
    Calls Tryz.prog 177 #[.agg #[.int .i64 a, .int .i64 b, .int .i64 c, .int .i64 d]] w fun e w' => e = .returned (.int .i64 5) ∧ Below w.heap.size w w' := by
  go_enter Tryz.func177, Tryz.ntmps177
  go_wp2
  go_ret
  exact ⟨rfl, below_new _ _⟩
theorem place_c (a b c d first i n : Int) (w : World) (hS : SpansAt w) :
    Calls Tryz.prog 120 #[.agg #[.int .i64 a, .int .i64 b, .int .i64 c, .int .i64 d], .int .i64 first, .int .i64 i, .int .i64 n] w fun e w' => e = .returned (.int .i64 (plc a b c d first i n)) ∧ Below w.heap.size w w' := by
  have hb := below_new w (.cells #[.int .i64 a, .int .i64 b, .int .i64 c, .int .i64 d] 88)
  have HX := Lib.hid (BoxAt.new w a b c d 88)
  have HS := Lib.hid (hS.below hb)
  have HB := Lib.hid hb
  clear hS hb
  by_cases h : 0 ≤ i ∧ i < n
  · have HW := Lib.hid (within_yes i n h.1 h.2)
    by_cases hr : Right a b c d
    · have HE : Hid (plc a b c d first i n = IntKind.i64.wrap (first + i)) := Lib.hid (by unfold plc; rw [if_pos ⟨h, hr⟩])
      have HC := Lib.hid (check_right a b c d hr)
      generalize plc a b c d first i n = r at HE
      clear h hr
      go_enter Tryz.func120, Tryz.ntmps120
      go_wp2_with fail
      refine (HW.out _).mono ?_
      rintro e w' ⟨rfl, rfl⟩
      obtain ⟨x0, x1, x2, x3⟩ := HX.out
      go_wp2_with fail
      refine (HC.out _ HS.out).mono ?_
      rintro e W ⟨rfl, hW⟩
      have HB1 := Lib.hid (belowOn HB.out hW)
      clear hW
      go_wp2_with fail
      go_ret
      exact ⟨by rw [HE.out, IntWalk.i64_left]; rfl, HB1.out⟩
    · have HE : Hid (plc a b c d first i n = -1) := Lib.hid (by unfold plc; rw [if_neg (fun h => hr h.2)])
      have HC := Lib.hid (check_wrong a b c d hr)
      generalize plc a b c d first i n = r at HE
      clear h hr
      go_enter Tryz.func120, Tryz.ntmps120
      go_wp2_with fail
      refine (HW.out _).mono ?_
      rintro e w' ⟨rfl, rfl⟩
      obtain ⟨x0, x1, x2, x3⟩ := HX.out
      go_wp2_with fail
      refine (HC.out _ HS.out).mono ?_
      rintro e W ⟨rfl, hW⟩
      have HB1 := Lib.hid (belowOn HB.out hW)
      clear hW
      go_wp2_with fail
      go_ret
      exact ⟨by rw [HE.out]; rfl, HB1.out⟩
  · have HW := Lib.hid (within_no i n h)
    have HE : Hid (plc a b c d first i n = -1) := Lib.hid (by unfold plc; rw [if_neg (fun h' => h h'.1)])
    generalize plc a b c d first i n = r at HE
    clear h
    go_enter Tryz.func120, Tryz.ntmps120
    go_wp2_with fail
    refine (HW.out _).mono ?_
    rintro e w' ⟨rfl, rfl⟩
    go_wp2_with fail
    go_ret
    exact ⟨by rw [HE.out]; rfl, HB.out⟩
theorem firstGlob_c (a b c d : Int) (w : World) :
    Calls Tryz.prog 169 #[.agg #[.int .i64 a, .int .i64 b, .int .i64 c, .int .i64 d]] w fun e w' => e = .returned (.int .i64 (fGlob b)) ∧ Below w.heap.size w w' := by
  have hb := below_new w (.cells #[.int .i64 a, .int .i64 b, .int .i64 c, .int .i64 d] 88)
  have HX := Lib.hid (BoxAt.new w a b c d 88)
  have HF := Lib.hid (firstIn_c a b c d)
  have hQ : Below w.heap.size w (w.alloc (.cells #[.int .i64 a, .int .i64 b, .int .i64 c, .int .i64 d] 88)).drew := hb.drew
  clear hb
  obtain ⟨x0, x1, x2, x3⟩ := HX.out
  go_enter Tryz.func169, Tryz.ntmps169
  go_wp2_with fail
  go_region_held3 (fun w' => w'.cell? ⟨w.heap.size, 0, none⟩ = some (.int .i64 a) ∧ w'.cell? ⟨w.heap.size, 1, none⟩ = some (.int .i64 b) ∧ w'.cell? ⟨w.heap.size, 2, none⟩ = some (.int .i64 c) ∧ w'.cell? ⟨w.heap.size, 3, none⟩ = some (.int .i64 d)) (first | assumption | go_keep)
    (first | (go_at_call 177; refine (HF.out _).mono ?_; rintro e v ⟨rfl, hV⟩; have hX := BoxAt.below (a := a) (b := b) (c := c) (d := d) (B := w.heap.size) (by assumption) hV; have hQ := belowOn (w := w) (by assumption) hV; clear hV))
  all_goals go_wp2_with fail
  all_goals go_ret
  all_goals exact ⟨rfl, by assumption⟩
theorem firstReg_c (a b c d : Int) (w : World) :
    Calls Tryz.prog 167 #[.agg #[.int .i64 a, .int .i64 b, .int .i64 c, .int .i64 d]] w fun e w' => e = .returned (.int .i64 (fReg b d)) ∧ Below w.heap.size w w' := by
  have hb := below_new w (.cells #[.int .i64 a, .int .i64 b, .int .i64 c, .int .i64 d] 88)
  have HX := Lib.hid (BoxAt.new w a b c d 88)
  have HF := Lib.hid (firstGlob_c a b c d)
  have hQ : Below w.heap.size w (w.alloc (.cells #[.int .i64 a, .int .i64 b, .int .i64 c, .int .i64 d] 88)).drew := hb.drew
  clear hb
  obtain ⟨x0, x1, x2, x3⟩ := HX.out
  go_enter Tryz.func167, Tryz.ntmps167
  go_wp2_with fail
  go_region_held3 (fun w' => w'.cell? ⟨w.heap.size, 0, none⟩ = some (.int .i64 a) ∧ w'.cell? ⟨w.heap.size, 1, none⟩ = some (.int .i64 b) ∧ w'.cell? ⟨w.heap.size, 2, none⟩ = some (.int .i64 c) ∧ w'.cell? ⟨w.heap.size, 3, none⟩ = some (.int .i64 d)) (first | assumption | go_keep)
    (first | (go_at_call 169; refine (HF.out _).mono ?_; rintro e v ⟨rfl, hV⟩; have hX := BoxAt.below (a := a) (b := b) (c := c) (d := d) (B := w.heap.size) (by assumption) hV; have hQ := belowOn (w := w) (by assumption) hV; clear hV))
  all_goals go_wp2_with fail
  all_goals go_ret
  all_goals exact ⟨rfl, by assumption⟩
theorem firstCell_c (a b c d : Int) (w : World) :
    Calls Tryz.prog 121 #[.agg #[.int .i64 a, .int .i64 b, .int .i64 c, .int .i64 d]] w fun e w' => e = .returned (.int .i64 (fCell b c d)) ∧ Below w.heap.size w w' := by
  have hb := below_new w (.cells #[.int .i64 a, .int .i64 b, .int .i64 c, .int .i64 d] 88)
  have HX := Lib.hid (BoxAt.new w a b c d 88)
  have HF := Lib.hid (firstReg_c a b c d)
  have hQ : Below w.heap.size w (w.alloc (.cells #[.int .i64 a, .int .i64 b, .int .i64 c, .int .i64 d] 88)).drew := hb.drew
  clear hb
  obtain ⟨x0, x1, x2, x3⟩ := HX.out
  go_enter Tryz.func121, Tryz.ntmps121
  go_wp2_with fail
  go_region_held3 (fun w' => w'.cell? ⟨w.heap.size, 0, none⟩ = some (.int .i64 a) ∧ w'.cell? ⟨w.heap.size, 1, none⟩ = some (.int .i64 b) ∧ w'.cell? ⟨w.heap.size, 2, none⟩ = some (.int .i64 c) ∧ w'.cell? ⟨w.heap.size, 3, none⟩ = some (.int .i64 d)) (first | assumption | go_keep)
    (first | (go_at_call 167; refine (HF.out _).mono ?_; rintro e v ⟨rfl, hV⟩; have hX := BoxAt.below (a := a) (b := b) (c := c) (d := d) (B := w.heap.size) (by assumption) hV; have hQ := belowOn (w := w) (by assumption) hV; clear hV))
  all_goals go_wp2_with fail
  all_goals go_ret
  all_goals exact ⟨rfl, by assumption⟩
end Go.Proofs.YtbpooljohjkbjaaGreatDoor
/- Operations and programs as slices that were handed in; the document's Great. -/
namespace Go.Proofs.YtbpooljohjkbjaaGreatDoor
open Go Go.RowKit
set_option maxRecDepth 100000
attribute [local go_sem ↓] Go.wp_at_zero Go.wp_at_succ
structure Opn where
  k : Int
  x : Int
  y : Int
  z : Int
deriving DecidableEq
def OpAt (W : World) (b off : Nat) (o : Opn) : Prop := W.cell? ⟨b, off, none⟩ = some (.int .i64 o.k) ∧ W.cell? ⟨b, off + 1, none⟩ = some (.int .i64 o.x) ∧ W.cell? ⟨b, off + 2, none⟩ = some (.int .i64 o.y) ∧ W.cell? ⟨b, off + 3, none⟩ = some (.int .i64 o.z)
theorem OpAt.lt {W : World} {b off : Nat} {o : Opn} (h : OpAt W b off o) : b < W.heap.size := lt_of_cell h.1
theorem OpAt.other {W V : World} {b off : Nat} {o : Opn} (h : OpAt W b off o) (e : V.heap[b]? = W.heap[b]?) : OpAt V b off o := by
  obtain ⟨h0, h1, h2, h3⟩ := h
  exact ⟨(World.cell?_of_block (a := ⟨b, off, none⟩) e).trans h0, (World.cell?_of_block (a := ⟨b, off + 1, none⟩) e).trans h1, (World.cell?_of_block (a := ⟨b, off + 2, none⟩) e).trans h2, (World.cell?_of_block (a := ⟨b, off + 3, none⟩) e).trans h3⟩
def OpsSl (W : World) (v : Value) (L : List Opn) : Prop := ∃ a cap, v = .slice a L.length cap ∧ (L.length = 0 ∨ ∃ b off, a = some ⟨b, off, none⟩ ∧ ∀ k, (h : k < L.length) → OpAt W b (off + k * 4) L[k])
theorem OpsSl.other {W V : World} {v : Value} {L : List Opn} (h : OpsSl W v L) (e : ∀ k, k < W.heap.size → v.ownBlock = some k → V.heap[k]? = W.heap[k]?) : OpsSl V v L := by
  obtain ⟨a, cap, rfl, h⟩ := h
  refine ⟨a, cap, rfl, h.imp id ?_⟩
  rintro ⟨b, off, rfl, h'⟩
  exact ⟨b, off, rfl, fun k hk => (h' k hk).other (e b (h' k hk).lt rfl)⟩
theorem OpsSl.below {W V : World} {v : Value} {L : List Opn} (h : OpsSl W v L) (hb : Below W.heap.size W V) : OpsSl V v L := h.other (fun k hk _ => hb.block k hk)
def PrsSl (W : World) (v : Value) (P : List (List Opn)) : Prop := ∃ a cap, v = .slice a P.length cap ∧ (P.length = 0 ∨ ∃ b off, a = some ⟨b, off, none⟩ ∧ ∀ k, (h : k < P.length) → ∃ u, W.cell? ⟨b, off + k, none⟩ = some u ∧ OpsSl W u P[k])
theorem PrsSl.below {W V : World} {v : Value} {P : List (List Opn)} (h : PrsSl W v P) (hb : Below W.heap.size W V) : PrsSl V v P := by
  obtain ⟨a, cap, rfl, h⟩ := h
  refine ⟨a, cap, rfl, h.imp id ?_⟩
  rintro ⟨b, off, rfl, h'⟩
  refine ⟨b, off, rfl, fun k hk => ?_⟩
  obtain ⟨u, h1, h2⟩ := h' k hk
  exact ⟨u, (World.cell?_of_block (a := ⟨b, off + k, none⟩) (hb.block b (lt_of_cell h1))).trans h1, h2.below hb⟩
def IntsSl (W : World) (v : Value) (L : List Int) : Prop := ∃ a cap, v = .slice a L.length cap ∧ (L.length = 0 ∨ ∃ b off, a = some ⟨b, off, none⟩ ∧ ∀ k, (h : k < L.length) → W.cell? ⟨b, off + k, none⟩ = some (.int .i64 L[k]))
theorem IntsSl.below {W V : World} {v : Value} {L : List Int} (h : IntsSl W v L) (hb : Below W.heap.size W V) : IntsSl V v L := by
  obtain ⟨a, cap, rfl, h⟩ := h
  refine ⟨a, cap, rfl, h.imp id ?_⟩
  rintro ⟨b, off, rfl, h'⟩
  exact ⟨b, off, rfl, fun k hk => (World.cell?_of_block (a := ⟨b, off + k, none⟩) (hb.block b (lt_of_cell (h' k hk)))).trans (h' k hk)⟩
def grt20 (a b c d : Int) (P : List (List Opn)) (n : Nat) : Prop := 8 < a ∨ 4 < b ∨ 4 < c ∨ 4 < d ∨ 5 < P.length ∨ 1000 < n ∨ ∃ k, ∃ h : k < P.length, 20 < P[k].length
theorem wgreat_0 (a b c d : Int) {P : List (List Opn)} {v : Value} {n : Nat} {a2 : Option Addr} {cap2 : Nat}  (h0 : 8 < a) {w : World} (hP : PrsSl w v P) :
    Calls Tryz.prog 9 #[.agg #[.int .i64 a, .int .i64 b, .int .i64 c, .int .i64 d], v, .slice a2 n cap2] w fun e w' => e = .returned (.bool true) ∧ Below w.heap.size w w' := by
  obtain ⟨a1, cap1, rfl, _⟩ := hP
  have d0 : decide (8 < a) = true := decide_eq_true h0
  clear h0
  go_enter Tryz.func9, Tryz.ntmps9
  go_wp2_with fail
  go_ret
  exact ⟨rfl, below_new _ _⟩
theorem wgreat_1 (a b c d : Int) {P : List (List Opn)} {v : Value} {n : Nat} {a2 : Option Addr} {cap2 : Nat} (h0 : ¬ 8 < a) (h1 : 4 < b) {w : World} (hP : PrsSl w v P) :
    Calls Tryz.prog 9 #[.agg #[.int .i64 a, .int .i64 b, .int .i64 c, .int .i64 d], v, .slice a2 n cap2] w fun e w' => e = .returned (.bool true) ∧ Below w.heap.size w w' := by
  obtain ⟨a1, cap1, rfl, _⟩ := hP
  have d0 : decide (8 < a) = false := decide_eq_false h0
  have d1 : decide (4 < b) = true := decide_eq_true h1
  clear h0 h1
  go_enter Tryz.func9, Tryz.ntmps9
  go_wp2_with fail
  go_ret
  exact ⟨rfl, below_new _ _⟩
theorem wgreat_2 (a b c d : Int) {P : List (List Opn)} {v : Value} {n : Nat} {a2 : Option Addr} {cap2 : Nat} (h0 : ¬ 8 < a) (h1 : ¬ 4 < b) (h2 : 4 < c) {w : World} (hP : PrsSl w v P) :
    Calls Tryz.prog 9 #[.agg #[.int .i64 a, .int .i64 b, .int .i64 c, .int .i64 d], v, .slice a2 n cap2] w fun e w' => e = .returned (.bool true) ∧ Below w.heap.size w w' := by
  obtain ⟨a1, cap1, rfl, _⟩ := hP
  have d0 : decide (8 < a) = false := decide_eq_false h0
  have d1 : decide (4 < b) = false := decide_eq_false h1
  have d2 : decide (4 < c) = true := decide_eq_true h2
  clear h0 h1 h2
  go_enter Tryz.func9, Tryz.ntmps9
  go_wp2_with fail
  go_ret
  exact ⟨rfl, below_new _ _⟩
theorem wgreat_3 (a b c d : Int) {P : List (List Opn)} {v : Value} {n : Nat} {a2 : Option Addr} {cap2 : Nat} (h0 : ¬ 8 < a) (h1 : ¬ 4 < b) (h2 : ¬ 4 < c) (h3 : 4 < d) {w : World} (hP : PrsSl w v P) :
    Calls Tryz.prog 9 #[.agg #[.int .i64 a, .int .i64 b, .int .i64 c, .int .i64 d], v, .slice a2 n cap2] w fun e w' => e = .returned (.bool true) ∧ Below w.heap.size w w' := by
  obtain ⟨a1, cap1, rfl, _⟩ := hP
  have d0 : decide (8 < a) = false := decide_eq_false h0
  have d1 : decide (4 < b) = false := decide_eq_false h1
  have d2 : decide (4 < c) = false := decide_eq_false h2
  have d3 : decide (4 < d) = true := decide_eq_true h3
  clear h0 h1 h2 h3
  go_enter Tryz.func9, Tryz.ntmps9
  go_wp2_with fail
  go_ret
  exact ⟨rfl, below_new _ _⟩
theorem wgreat_4 (a b c d : Int) {P : List (List Opn)} {v : Value} {n : Nat} {a2 : Option Addr} {cap2 : Nat} (h0 : ¬ 8 < a) (h1 : ¬ 4 < b) (h2 : ¬ 4 < c) (h3 : ¬ 4 < d) (h4 : (5 : Int) < (P.length : Int)) {w : World} (hP : PrsSl w v P) :
    Calls Tryz.prog 9 #[.agg #[.int .i64 a, .int .i64 b, .int .i64 c, .int .i64 d], v, .slice a2 n cap2] w fun e w' => e = .returned (.bool true) ∧ Below w.heap.size w w' := by
  obtain ⟨a1, cap1, rfl, _⟩ := hP
  have d0 : decide (8 < a) = false := decide_eq_false h0
  have d1 : decide (4 < b) = false := decide_eq_false h1
  have d2 : decide (4 < c) = false := decide_eq_false h2
  have d3 : decide (4 < d) = false := decide_eq_false h3
  have d4 : decide ((5 : Int) < (P.length : Int)) = true := decide_eq_true h4
  clear h0 h1 h2 h3 h4
  go_enter Tryz.func9, Tryz.ntmps9
  go_wp2_with fail
  go_ret
  exact ⟨rfl, below_new _ _⟩
theorem wgreat_5 (a b c d : Int) {P : List (List Opn)} {v : Value} {n : Nat} {a2 : Option Addr} {cap2 : Nat} (h0 : ¬ 8 < a) (h1 : ¬ 4 < b) (h2 : ¬ 4 < c) (h3 : ¬ 4 < d) (h4 : ¬ (5 : Int) < (P.length : Int)) (h5 : (1000 : Int) < (n : Int)) {w : World} (hP : PrsSl w v P) :
    Calls Tryz.prog 9 #[.agg #[.int .i64 a, .int .i64 b, .int .i64 c, .int .i64 d], v, .slice a2 n cap2] w fun e w' => e = .returned (.bool true) ∧ Below w.heap.size w w' := by
  obtain ⟨a1, cap1, rfl, _⟩ := hP
  have d0 : decide (8 < a) = false := decide_eq_false h0
  have d1 : decide (4 < b) = false := decide_eq_false h1
  have d2 : decide (4 < c) = false := decide_eq_false h2
  have d3 : decide (4 < d) = false := decide_eq_false h3
  have d4 : decide ((5 : Int) < (P.length : Int)) = false := decide_eq_false h4
  have d5 : decide ((1000 : Int) < (n : Int)) = true := decide_eq_true h5
  clear h0 h1 h2 h3 h4 h5
  go_enter Tryz.func9, Tryz.ntmps9
  go_wp2_with fail
  go_ret
  exact ⟨rfl, below_new _ _⟩
set_option maxHeartbeats 1600000 in
theorem wgreat_6 (a b c d : Int) {P : List (List Opn)} {v : Value} {n : Nat} {a2 : Option Addr} {cap2 : Nat} (h0 : ¬ 8 < a) (h1 : ¬ 4 < b) (h2 : ¬ 4 < c) (h3 : ¬ 4 < d) (h4 : ¬ (5 : Int) < (P.length : Int)) (h5 : ¬ (1000 : Int) < (n : Int)) {w : World} (hP : PrsSl w v P) :
    Calls Tryz.prog 9 #[.agg #[.int .i64 a, .int .i64 b, .int .i64 c, .int .i64 d], v, .slice a2 n cap2] w fun e w' => ∃ r : Bool, e = .returned (.bool r) ∧ (r = true ↔ ∃ k, ∃ h : k < P.length, 20 < P[k].length) ∧ Below w.heap.size w w' := by
  obtain ⟨a1, cap1, rfl, hQ⟩ := hP
  have d0 : decide (8 < a) = false := decide_eq_false h0
  have d1 : decide (4 < b) = false := decide_eq_false h1
  have d2 : decide (4 < c) = false := decide_eq_false h2
  have d3 : decide (4 < d) = false := decide_eq_false h3
  have d4 : decide ((5 : Int) < (P.length : Int)) = false := decide_eq_false h4
  have d5 : decide ((1000 : Int) < (n : Int)) = false := decide_eq_false h5
  have hP5 : P.length ≤ 5 := by omega
  clear h0 h1 h2 h3 h4 h5
  have HB := Lib.hid (below_new w (.cells #[.int .i64 a, .int .i64 b, .int .i64 c, .int .i64 d] 23))
  have HQ := Lib.hid hQ
  clear hQ
  go_enter Tryz.func9, Tryz.ntmps9
  go_wp2_with fail
  generalize w.alloc (.cells #[.int .i64 a, .int .i64 b, .int .i64 c, .int .i64 d] 23) = W1 at *
  go_loopw [7] (fun iv wr => ∃ k : Nat, iv = .int .i64 k ∧ k ≤ P.length ∧ wr = W1 ∧ ∀ j, ∀ h : j < P.length, j < k → P[j].length ≤ 20) (fun iv _ => P.length - (intOf iv).toNat)
  case atStart => exact ⟨0, rfl, by omega, rfl, fun j _ hj => absurd hj (by omega)⟩
  case round =>
    obtain ⟨k, rfl, hk, rfl, hN⟩ := hrel
    have HN := Lib.hid hN
    clear hN
    by_cases hkl : k < P.length
    · obtain ⟨b0, off, rfl, hc⟩ := HQ.out.resolve_left (by omega)
      obtain ⟨u, hu, hs⟩ := hc k hkl
      have cu : wr.cell? ⟨b0, off + k, none⟩ = some u := (World.cell?_of_block (a := ⟨b0, off + k, none⟩) (HB.out.block b0 (lt_of_cell hu))).trans hu
      obtain ⟨a3, cap3, rfl, _⟩ := hs
      clear hu hc
      obtain ⟨q, hq⟩ : ∃ q, (P[k]).length = q := ⟨_, rfl⟩
      rw [hq] at cu
      have dk : decide ((k : Int) < (P.length : Int)) = true := decide_eq_true (by omega)
      have hk1 : IntKind.i64.wrap ((k : Int) + 1) = (k : Int) + 1 := IntWalk.i64_in _ (by omega)
      have hkI : (k : Int) < (P.length : Int) := by omega
      have hk0 : (0 : Int) ≤ (k : Int) := by omega
      by_cases h20 : (20 : Int) < (q : Int)
      · have d7 : decide ((20 : Int) < (q : Int)) = true := decide_eq_true h20
        go_wp2_with fail
        go_ret
        exact ⟨true, rfl, ⟨fun _ => ⟨k, hkl, by omega⟩, fun _ => rfl⟩, HB.out⟩
      have d7 : decide ((20 : Int) < (q : Int)) = false := decide_eq_false h20
      go_wp2_with fail
      go_roundw
      case rel => exact ⟨k + 1, by first | rfl | go_num, by omega, by first | rfl | trivial, fun j hj hl => by rcases Nat.lt_succ_iff_lt_or_eq.1 hl with e | e; exact HN.out j hj e; subst e; omega⟩
      case measure => simp [intOf]; omega
    obtain rfl : k = P.length := by omega
    have dk : decide ((P.length : Int) < (P.length : Int)) = false := decide_eq_false (by omega)
    go_wp2_with fail
    go_ret
    exact ⟨false, rfl, ⟨fun e => absurd e (by simp), fun ⟨j, hj, hl⟩ => by have := HN.out j hj hj; omega⟩, HB.out⟩
open Classical in
theorem wgreat_c (a b c d : Int) {P : List (List Opn)} {v : Value} {n : Nat} {a2 : Option Addr} {cap2 : Nat} {w : World} (hP : PrsSl w v P) :
    Calls Tryz.prog 9 #[.agg #[.int .i64 a, .int .i64 b, .int .i64 c, .int .i64 d], v, .slice a2 n cap2] w fun e w' => ∃ r : Bool, e = .returned (.bool r) ∧ (r = true ↔ grt20 a b c d P n) ∧ Below w.heap.size w w' := by
  by_cases g0 : 8 < a
  · exact (wgreat_0 a b c d g0 hP).mono (fun e w' h => ⟨true, h.1, ⟨fun _ => by unfold grt20; omega, fun _ => rfl⟩, h.2⟩)
  by_cases g1 : 4 < b
  · exact (wgreat_1 a b c d g0 g1 hP).mono (fun e w' h => ⟨true, h.1, ⟨fun _ => by unfold grt20; omega, fun _ => rfl⟩, h.2⟩)
  by_cases g2 : 4 < c
  · exact (wgreat_2 a b c d g0 g1 g2 hP).mono (fun e w' h => ⟨true, h.1, ⟨fun _ => by unfold grt20; omega, fun _ => rfl⟩, h.2⟩)
  by_cases g3 : 4 < d
  · exact (wgreat_3 a b c d g0 g1 g2 g3 hP).mono (fun e w' h => ⟨true, h.1, ⟨fun _ => by unfold grt20; omega, fun _ => rfl⟩, h.2⟩)
  by_cases g4 : (5 : Int) < (P.length : Int)
  · exact (wgreat_4 a b c d g0 g1 g2 g3 g4 hP).mono (fun e w' h => ⟨true, h.1, ⟨fun _ => by unfold grt20; omega, fun _ => rfl⟩, h.2⟩)
  by_cases g5 : (1000 : Int) < (n : Int)
  · exact (wgreat_5 a b c d g0 g1 g2 g3 g4 g5 hP).mono (fun e w' h => ⟨true, h.1, ⟨fun _ => by unfold grt20; omega, fun _ => rfl⟩, h.2⟩)
  exact (wgreat_6 a b c d g0 g1 g2 g3 g4 g5 hP).mono (fun e w' ⟨r, h1, h2, h3⟩ => ⟨r, h1, h2.trans ⟨fun h => by unfold grt20; exact .inr (.inr (.inr (.inr (.inr (.inr h))))), fun h => by unfold grt20 at h; rcases h with h | h | h | h | h | h | h <;> first | exact h | omega⟩, h3⟩)
end Go.Proofs.YtbpooljohjkbjaaGreatDoor
/- The move of a walk with its side conditions by themselves: a row of a walk is short. -/
namespace Go.Proofs.YtbpooljohjkbjaaGreatDoor
open Go
set_option maxRecDepth 100000

theorem tk {P : Program} {ops : Array Oper} {Q : Exit → Act → World → Prop} {md : Region.Mode} {S : World → Prop} (i : Nat) {oi : Oper} {v : Value} {fuel : Nat} {listed : Array Bool} {a a' : Act} {w : World} (hi : ops[i]? = some oi) (hS : S w)
    (h : wpAnyH P md ops Q S fuel (listed.setIfInBounds i true) a' w)
    (hs : Region.noSelect ops = true := by kernel_rfl) (hf : Region.free md ops listed i = true := by kernel_rfl) (hr : (Region.ready md ops listed).contains i = true := by kernel_rfl)
    (hQ : ∀ c a w, Q (.panic c) (a.put oi.dst v) w → Q (.panic c) a w := by exact fun _ _ _ h => h)
    (hy : YieldsIf P ops S oi v a := by exact Or.inl ⟨by rfl, by (intro w hSw; (try dsimp only at hSw); go_simp; (try with_reducible rfl))⟩)
    (ha : a.put oi.dst v = a' := by first | (simp only [Act.put, List.setIfInBounds_toArray, List.set_cons_zero, List.set_cons_succ]; done) | (simp only [Act.put, List.setIfInBounds_toArray, List.set_cons_zero, List.set_cons_succ]; exact rfl) | exact rfl) : wpAnyH P md ops Q S (fuel + 1) listed a w :=
  wpAnyH_take hi hs hf hr hQ hy hS (ha ▸ h)
end Go.Proofs.YtbpooljohjkbjaaGreatDoor
/- Rows of words in memory, and an arena; sync/atomic's Uint64 (Load, Store, CompareAndSwap, Add) in one goroutine; package arena's Len, has, Load, Store, Cas and Add, for an arena and for a nil one, at every place. -/
namespace Go.Proofs.YtbpooljohjkbjaaGreatDoor
open Go Go.RowKit
set_option maxRecDepth 100000
theorem newBlock (w : World) (o : Obj) : (w.alloc o).heap[w.heap.size]? = some o := by unfold World.alloc; exact Array.getElem?_push_size
def upd (f : Nat → Int) (j : Nat) (x : Int) : Nat → Int := fun i => if i = j then x else f i
def sumW (a b : Int) : Int := (a + b) % 18446744073709551616
def U64 (x : Int) : Prop := 0 ≤ x ∧ x < 18446744073709551616
theorem sumW_u64 (a b : Int) : U64 (sumW a b) := ⟨Int.emod_nonneg _ (by decide), Int.emod_lt_of_pos _ (by decide)⟩
theorem wrap_sum (a b : Int) : IntKind.u64.wrap (a + b) = sumW a b := by rw [IntKind.wrap_u64]; rfl
theorem wrap_back {a : Int} (h : U64 a) (b : Int) : IntKind.u64.wrap (sumW a b - b) = a := by
  unfold sumW U64 at *; rw [IntKind.wrap_u64]; omega
def RowAt (w : World) (R : Nat) (t : TypeId) (n : Nat) (f : Nat → Int) : Prop :=
  ∃ c : Array Value, w.heap[R]? = some (.cells c t (0, 0)) ∧ n ≤ c.size ∧ ∀ j, j < n → c[j]? = some (.int .u64 (f j))
namespace RowAt
variable {w w' : World} {R : Nat} {t : TypeId} {n : Nat} {f g : Nat → Int}
theorem cell (h : RowAt w R t n f) {j : Nat} (hj : j < n) : w.cell? ⟨R, j, none⟩ = some (.int .u64 (f j)) := by
  obtain ⟨c, hb, _, hc⟩ := h; simp [World.cell?, hb, hc j hj]
theorem frozen (h : RowAt w R t n f) (j : Nat) : w.frozen? ⟨R, j, none⟩ = false := by
  obtain ⟨c, hb, _, _⟩ := h; simp [World.frozen?, hb]
theorem lt (h : RowAt w R t n f) : R < w.heap.size := by
  obtain ⟨c, hb, _, _⟩ := h; exact (Array.getElem?_eq_some_iff.1 hb).1
theorem congr (h : RowAt w R t n f) (e : ∀ j, j < n → f j = g j) : RowAt w R t n g := by
  obtain ⟨c, hb, hn, hc⟩ := h; exact ⟨c, hb, hn, fun j hj => by rw [hc j hj, e j hj]⟩
theorem other (h : RowAt w R t n f) (e : w'.heap[R]? = w.heap[R]?) : RowAt w' R t n f := by
  obtain ⟨c, hb, hn, hc⟩ := h; exact ⟨c, e.trans hb, hn, hc⟩
theorem below (h : RowAt w R t n f) (hb : Below w.heap.size w w') : RowAt w' R t n f := h.other (hb.block _ h.lt)
theorem set (h : RowAt w R t n f) (p : Nat) (x : Int) : RowAt (w.setCell ⟨R, p, none⟩ (.int .u64 x)) R t n (upd f p x) := by
  obtain ⟨c, hb, hn, hc⟩ := h
  refine ⟨c.setIfInBounds p (.int .u64 x), by simp [World.setCell, Array.getElem?_modify, hb], by simpa using hn, fun j hj => ?_⟩
  rw [Array.getElem?_setIfInBounds]
  unfold upd
  by_cases e : j = p
  · subst e; rw [if_pos rfl, if_pos rfl, if_pos (by omega)]
  · rw [if_neg (fun h => e h.symm), if_neg e, hc j hj]
end RowAt
theorem RowAt.made (w : World) (n : Nat) (t : TypeId) : RowAt (w.alloc (.cells (madeCells #[.int .u64 0] n) t)) w.heap.size t n (fun _ => 0) :=
  ⟨_, newBlock _ _, by rw [size_madeCells]; exact Nat.le_refl _, fun j hj => by simp [madeCells, hj, Nat.mod_one]⟩
structure ArenaAt (w : World) (A G n : Nat) (f : Nat → Int) : Prop where
  ne : A ≠ G
  box : w.heap[A]? = some (.cells #[.slice (some ⟨G, 0, none⟩) n n] 145 (0, 0))
  row : RowAt w G 150 n f
  le : n ≤ 4611686018427387904
namespace ArenaAt
variable {w w' : World} {A G n : Nat} {f g : Nat → Int}
theorem cell (h : ArenaAt w A G n f) : w.cell? ⟨A, 0, none⟩ = some (.slice (some ⟨G, 0, none⟩) n n) := by simp [World.cell?, h.box]
theorem lt (h : ArenaAt w A G n f) : A < w.heap.size := (Array.getElem?_eq_some_iff.1 h.box).1
theorem other (h : ArenaAt w A G n f) (e1 : w'.heap[A]? = w.heap[A]?) (e2 : w'.heap[G]? = w.heap[G]?) : ArenaAt w' A G n f := ⟨h.ne, e1.trans h.box, h.row.other e2, h.le⟩
theorem below (h : ArenaAt w A G n f) (hb : Below w.heap.size w w') : ArenaAt w' A G n f := h.other (hb.block _ h.lt) (hb.block _ h.row.lt)
theorem set (h : ArenaAt w A G n f) (p : Nat) (x : Int) : ArenaAt (w.setCell ⟨G, p, none⟩ (.int .u64 x)) A G n (upd f p x) :=
  ⟨h.ne, (Below.heap_setCell _ _ _ _ h.ne).trans h.box, h.row.set p x, h.le⟩
theorem setOther (h : ArenaAt w A G n f) {p : Addr} (h1 : p.block ≠ A) (h2 : p.block ≠ G) (v : Value) : ArenaAt (w.setCell p v) A G n f :=
  h.other (Below.heap_setCell _ _ _ _ (fun e => h1 e.symm)) (Below.heap_setCell _ _ _ _ (fun e => h2 e.symm))
theorem congr (h : ArenaAt w A G n f) (e : ∀ j, j < n → f j = g j) : ArenaAt w A G n g := ⟨h.ne, h.box, h.row.congr e, h.le⟩
end ArenaAt
section
variable {a : Addr}
theorem aLoad_c (b j : Nat) (x : Int) (w : World) (hc : w.cell? ⟨b, j, none⟩ = some (.int .u64 x)) :
    Calls Tryz.prog 86 #[.pointer (some ⟨b, j, none⟩)] w fun e w' => e = .returned (.int .u64 x) ∧ w = w' := by
  have h := run_call_load (P := Tryz.prog) Tryz.func115 (by kernel_rfl) (by kernel_rfl) (by kernel_rfl) .u64 (by kernel_rfl) hc
  go_enter Tryz.func86, Tryz.ntmps86
  go_wp2
  go_ret
  exact ⟨rfl, rfl⟩
theorem aStore_c (b j : Nat) (x y : Int) (w : World) (hc : w.cell? ⟨b, j, none⟩ = some (.int .u64 x)) (hz : w.frozen? ⟨b, j, none⟩ = false) :
    Calls Tryz.prog 118 #[.pointer (some ⟨b, j, none⟩), .int .u64 y] w fun e w' => e = .returned (.tuple #[]) ∧ w' = w.setCell ⟨b, j, none⟩ (.int .u64 y) := by
  have h := run_call_store (P := Tryz.prog) Tryz.func166 (by kernel_rfl) (by kernel_rfl) (by kernel_rfl) (by kernel_rfl) (k := .u64) (y := y) hc hz
  go_enter Tryz.func118, Tryz.ntmps118
  go_wp2
  go_end0
  exact ⟨rfl, rfl⟩
theorem aCas_hit (b j : Nat) (x y : Int) (w : World) (hc : w.cell? ⟨b, j, none⟩ = some (.int .u64 x)) (hz : w.frozen? ⟨b, j, none⟩ = false) :
    Calls Tryz.prog 194 #[.pointer (some ⟨b, j, none⟩), .int .u64 x, .int .u64 y] w fun e w' => e = .returned (.bool true) ∧ w' = w.setCell ⟨b, j, none⟩ (.int .u64 y) := by
  have h := run_call_cas_hit (P := Tryz.prog) Tryz.func196 (by kernel_rfl) (by kernel_rfl) (by kernel_rfl) .u64 (by kernel_rfl) (y := y) hc hz
  go_enter Tryz.func194, Tryz.ntmps194
  go_wp2
  go_ret
  exact ⟨rfl, rfl⟩
theorem aCas_miss (b j : Nat) (x o y : Int) (hne : ¬ x = o) (w : World) (hc : w.cell? ⟨b, j, none⟩ = some (.int .u64 x)) (hz : w.frozen? ⟨b, j, none⟩ = false) :
    Calls Tryz.prog 194 #[.pointer (some ⟨b, j, none⟩), .int .u64 o, .int .u64 y] w fun e w' => e = .returned (.bool false) ∧ w = w' := by
  have h := run_call_cas_miss (P := Tryz.prog) Tryz.func196 (by kernel_rfl) (by kernel_rfl) (by kernel_rfl) .u64 (by kernel_rfl) (o := o) (y := y) hc hz hne
  go_enter Tryz.func194, Tryz.ntmps194
  go_wp2
  go_ret
  exact ⟨rfl, rfl⟩
theorem aAdd_c (b j : Nat) (x y : Int) (w : World) (hc : w.cell? ⟨b, j, none⟩ = some (.int .u64 x)) (hz : w.frozen? ⟨b, j, none⟩ = false) :
    Calls Tryz.prog 195 #[.pointer (some ⟨b, j, none⟩), .int .u64 y] w fun e w' => e = .returned (.int .u64 (sumW x y)) ∧ w' = w.setCell ⟨b, j, none⟩ (.int .u64 (sumW x y)) := by
  have h := run_call_add (P := Tryz.prog) Tryz.func197 (by kernel_rfl) (by kernel_rfl) (by kernel_rfl) .u64 (by kernel_rfl) (y := y) (s := sumW x y) hc hz (by simp [go_sem, wrap_sum])
  generalize sumW x y = s at *
  go_enter Tryz.func195, Tryz.ntmps195
  go_wp2
  go_ret
  exact ⟨rfl, rfl⟩
end
theorem Len_c {A G n : Nat} {f : Nat → Int} {w : World} (hA : ArenaAt w A G n f) :
    Calls Tryz.prog 50 #[.pointer (some ⟨A, 0, none⟩)] w fun e w' => e = .returned (.int .i64 n) ∧ w = w' := by
  have hc := hA.cell
  clear hA
  go_enter Tryz.func50, Tryz.ntmps50
  go_wp2
  go_ret
  exact ⟨rfl, rfl⟩
theorem has_c {A G n : Nat} {f : Nat → Int} {w : World} (hA : ArenaAt w A G n f) (i : Int) :
    Calls Tryz.prog 85 #[.pointer (some ⟨A, 0, none⟩), .int .i64 i] w fun e w' => e = .returned (.bool (decide (0 ≤ i ∧ i < n))) ∧ w = w' := by
  have HL := Lib.hid (Len_c hA)
  clear hA
  by_cases h : 0 ≤ i
  · by_cases h2 : i < n
    · have e : decide (0 ≤ i ∧ i < n) = true := by simp; omega
      rw [e]; clear e
      go_enter Tryz.func85, Tryz.ntmps85
      go_wp2_with fail
      refine HL.out.mono ?_
      rintro e w' ⟨rfl, rfl⟩
      go_wp2_with fail
      go_ret
      exact ⟨rfl, rfl⟩
    · have e : decide (0 ≤ i ∧ i < n) = false := by simp; omega
      have hd : decide (i < (n : Int)) = false := by simp; omega
      rw [e]; clear e
      go_enter Tryz.func85, Tryz.ntmps85
      go_wp2_with fail
      refine HL.out.mono ?_
      rintro e w' ⟨rfl, rfl⟩
      go_wp2_with fail
      go_ret
      exact ⟨rfl, rfl⟩
  · have e : decide (0 ≤ i ∧ i < n) = false := by simp; omega
    rw [e]; clear e
    go_enter Tryz.func85, Tryz.ntmps85
    go_wp2_with fail
    go_ret
    exact ⟨rfl, rfl⟩
theorem has_in {A G n : Nat} {f : Nat → Int} {w : World} (hA : ArenaAt w A G n f) {i : Int} (h : 0 ≤ i ∧ i < n) :
    Calls Tryz.prog 85 #[.pointer (some ⟨A, 0, none⟩), .int .i64 i] w fun e w' => e = .returned (.bool true) ∧ w = w' := by
  have := has_c hA i; rwa [decide_eq_true h] at this
def NoPlace (w : World) (v : Value) (i : Int) : Prop :=
  Calls Tryz.prog 85 #[v, .int .i64 i] w fun e w' => e = .returned (.bool false) ∧ w = w'
theorem noPlace_out {A G n : Nat} {f : Nat → Int} {w : World} (hA : ArenaAt w A G n f) {i : Int} (h : ¬ (0 ≤ i ∧ i < n)) : NoPlace w (.pointer (some ⟨A, 0, none⟩)) i := by
  have := has_c hA i; rwa [decide_eq_false h] at this
theorem Load_in {A G n : Nat} {f : Nat → Int} {w : World} (hA : ArenaAt w A G n f) (k : Nat) (hk : k < n) :
    Calls Tryz.prog 51 #[.pointer (some ⟨A, 0, none⟩), .int .i64 k] w fun e w' => e = .returned (.int .u64 (f k)) ∧ w = w' := by
  have H := Lib.hid (has_in hA (i := k) (by omega))
  have HX := Lib.hid (aLoad_c G k (f k) w (hA.row.cell hk))
  have hc := hA.cell
  have hle := hA.le
  generalize f k = x at *
  clear hA
  go_enter Tryz.func51, Tryz.ntmps51
  go_wp2_with fail
  refine H.out.mono ?_
  rintro e w' ⟨rfl, rfl⟩
  go_wp2_with fail
  refine HX.out.mono ?_
  rintro e w' ⟨rfl, rfl⟩
  go_wp2_with fail
  go_ret
  exact ⟨rfl, rfl⟩
theorem Store_in {A G n : Nat} {f : Nat → Int} {w : World} (hA : ArenaAt w A G n f) (k : Nat) (hk : k < n) (x : Int) :
    Calls Tryz.prog 100 #[.pointer (some ⟨A, 0, none⟩), .int .i64 k, .int .u64 x] w fun e w' => e = .returned (.tuple #[]) ∧ w' = w.setCell ⟨G, k, none⟩ (.int .u64 x) := by
  have H := Lib.hid (has_in hA (i := k) (by omega))
  have HX := Lib.hid (aStore_c G k (f k) x w (hA.row.cell hk) (hA.row.frozen k))
  have hc := hA.cell
  have hle := hA.le
  clear hA
  go_enter Tryz.func100, Tryz.ntmps100
  go_wp2_with fail
  refine H.out.mono ?_
  rintro e w' ⟨rfl, rfl⟩
  go_wp2_with fail
  refine HX.out.mono ?_
  rintro e w' ⟨rfl, rfl⟩
  go_wp2_with fail
  go_end0
  exact ⟨rfl, rfl⟩
theorem Cas_hit {A G n : Nat} {f : Nat → Int} {w : World} (hA : ArenaAt w A G n f) (k : Nat) (hk : k < n) (y : Int) :
    Calls Tryz.prog 192 #[.pointer (some ⟨A, 0, none⟩), .int .i64 k, .int .u64 (f k), .int .u64 y] w fun e w' => e = .returned (.bool true) ∧ w' = w.setCell ⟨G, k, none⟩ (.int .u64 y) := by
  have H := Lib.hid (has_in hA (i := k) (by omega))
  have HX := Lib.hid (aCas_hit G k (f k) y w (hA.row.cell hk) (hA.row.frozen k))
  have hc := hA.cell
  have hle := hA.le
  generalize f k = x at *
  clear hA
  go_enter Tryz.func192, Tryz.ntmps192
  go_wp2_with fail
  refine H.out.mono ?_
  rintro e w' ⟨rfl, rfl⟩
  go_wp2_with fail
  refine HX.out.mono ?_
  rintro e w' ⟨rfl, rfl⟩
  go_wp2_with fail
  go_ret
  exact ⟨rfl, rfl⟩
theorem Cas_miss {A G n : Nat} {f : Nat → Int} {w : World} (hA : ArenaAt w A G n f) (k : Nat) (hk : k < n) (x y : Int) (hne : ¬ f k = x) :
    Calls Tryz.prog 192 #[.pointer (some ⟨A, 0, none⟩), .int .i64 k, .int .u64 x, .int .u64 y] w fun e w' => e = .returned (.bool false) ∧ w = w' := by
  have H := Lib.hid (has_in hA (i := k) (by omega))
  have HX := Lib.hid (aCas_miss G k (f k) x y hne w (hA.row.cell hk) (hA.row.frozen k))
  have hc := hA.cell
  have hle := hA.le
  clear hA hne
  go_enter Tryz.func192, Tryz.ntmps192
  go_wp2_with fail
  refine H.out.mono ?_
  rintro e w' ⟨rfl, rfl⟩
  go_wp2_with fail
  refine HX.out.mono ?_
  rintro e w' ⟨rfl, rfl⟩
  go_wp2_with fail
  go_ret
  exact ⟨rfl, rfl⟩
theorem Add_in {A G n : Nat} {f : Nat → Int} {w : World} (hA : ArenaAt w A G n f) (k : Nat) (hk : k < n) (hf : U64 (f k)) (x : Int) :
    Calls Tryz.prog 193 #[.pointer (some ⟨A, 0, none⟩), .int .i64 k, .int .u64 x] w fun e w' => e = .returned (.int .u64 (f k)) ∧ w' = w.setCell ⟨G, k, none⟩ (.int .u64 (sumW (f k) x)) := by
  have H := Lib.hid (has_in hA (i := k) (by omega))
  have HX := Lib.hid (aAdd_c G k (f k) x w (hA.row.cell hk) (hA.row.frozen k))
  have hc := hA.cell
  have hle := hA.le
  have hw := wrap_back hf x
  generalize sumW (f k) x = s at *
  generalize f k = y at *
  clear hA hf
  go_enter Tryz.func193, Tryz.ntmps193
  go_wp2_with fail
  refine H.out.mono ?_
  rintro e w' ⟨rfl, rfl⟩
  go_wp2_with fail
  refine HX.out.mono ?_
  rintro e w' ⟨rfl, rfl⟩
  go_wp2_with fail
  go_ret
  exact ⟨rfl, rfl⟩
end Go.Proofs.YtbpooljohjkbjaaGreatDoor
/- Package arena's New and All, and the document's Copy and Same, for rows of at most 20000 words; the laws' own first look (awake). -/
namespace Go.Proofs.YtbpooljohjkbjaaGreatDoor
open Go Go.RowKit
set_option maxRecDepth 100000
def WordsAt (w : World) (a : Option Addr) (n : Nat) (f : Nat → Int) : Prop :=
  n = 0 ∨ ∃ b off, a = some ⟨b, off, none⟩ ∧ b < w.heap.size ∧ ∀ j, j < n → w.cell? ⟨b, off + j, none⟩ = some (.int .u64 (f j))
namespace WordsAt
variable {w w' : World} {a : Option Addr} {n : Nat} {f g : Nat → Int}
theorem below (h : WordsAt w a n f) (hb : Below w.heap.size w w') : WordsAt w' a n f := by
  rcases h with h | ⟨b, off, h1, h2, h3⟩
  · exact .inl h
  · exact .inr ⟨b, off, h1, by have := hb.size; omega, fun j hj => (hb.cell (p := ⟨b, off + j, none⟩) h2).trans (h3 j hj)⟩
theorem at' (h : WordsAt w a n f) {k : Nat} (hk : k < n) : ∃ b off, a = some ⟨b, off, none⟩ ∧ w.cell? ⟨b, off + k, none⟩ = some (.int .u64 (f k)) := by
  rcases h with h | ⟨b, off, h1, h2, h3⟩
  · omega
  · exact ⟨b, off, h1, h3 k hk⟩
end WordsAt
theorem infoWord : (Tryz.prog.info? 36).map (fun i => (i.zero, i.size, i.bytes)) = some (some (.int .u64 0), 1, 8) := by kernel_rfl
theorem infoCell : (Tryz.prog.info? 150).map (fun i => (i.zero, i.size, i.bytes)) = some (some (.agg #[.int .u64 0]), 1, 8) := by kernel_rfl
theorem make_words (n : Nat) (hn : n ≤ 20000) (w : World) : (Instr.makeSlice 46 (.int .i64 (n : Int)) (.int .i64 (n : Int))).run Tryz.prog w = .ok (.slice (some ⟨w.heap.size, 0, none⟩) n n) (w.alloc (.cells (madeCells #[.int .u64 0] n) 36)) :=
  run_make_row' 46 36 (.int .u64 0) 8 Tryz.underlying46 infoWord rfl .i64 .i64 n (by omega) (by omega) w
theorem make_cells (n : Nat) (hn : n ≤ 20000) (w : World) : (Instr.makeSlice 143 (.int .i64 (n : Int)) (.int .i64 (n : Int))).run Tryz.prog w = .ok (.slice (some ⟨w.heap.size, 0, none⟩) n n) (w.alloc (.cells (madeCells #[.int .u64 0] n) 150)) := by
  obtain ⟨i, hi, hzz⟩ := Option.map_eq_some_iff.1 infoCell
  simp only [Prod.mk.injEq] at hzz
  obtain ⟨hz, hs, hb⟩ := hzz
  have hr := run_make (P := Tryz.prog) w 143 150 i (.agg #[.int .u64 0]) Tryz.underlying143 hi hz .i64 .i64 n n (by omega) (Int.le_refl _) (by rw [hb]; omega) (by omega)
  simp only [Int.toNat_natCast, hs, Nat.mul_one] at hr
  exact hr
structure NewBox (w wr : World) (n : Nat) (f : Nat → Int) (k : Nat) : Prop where
  old : Below w.heap.size w wr
  ar : ArenaAt wr (w.heap.size + 1) w.heap.size n (fun j => if j < k then f j else 0)
def NewPost (w : World) (n : Nat) (f : Nat → Int) (e : Ending) (w' : World) : Prop :=
  e = .returned (.pointer (some ⟨w.heap.size + 1, 0, none⟩)) ∧ ArenaAt w' (w.heap.size + 1) w.heap.size n f ∧ Below w.heap.size w w'
theorem NewBox.start (w : World) (n : Nat) (f : Nat → Int) (hn : n ≤ 20000) :
    NewBox w ((w.alloc (.cells (madeCells #[.int .u64 0] n) 150)).alloc (.cells #[.slice (some ⟨w.heap.size, 0, none⟩) n n] 145)) n f 0 := by
  refine ⟨below_on (below_new _ _) _, by omega, ?_, ((RowAt.made w n _).below (below_new _ _)).congr (fun j _ => rfl), by omega⟩
  have := newBlock (w.alloc (.cells (madeCells #[.int .u64 0] n) 150)) (.cells #[.slice (some ⟨w.heap.size, 0, none⟩) n n] 145)
  simpa using this
theorem NewBox.next {w wr : World} {n : Nat} {f : Nat → Int} {k : Nat} (h : NewBox w wr n f k) : NewBox w (wr.setCell ⟨w.heap.size, k, none⟩ (.int .u64 (f k))) n f (k + 1) :=
  ⟨h.old.setCell (p := ⟨w.heap.size, k, none⟩) (Nat.le_refl _) _, (h.ar.set k (f k)).congr (fun j _ => by
    unfold upd
    by_cases e : j = k
    · subst e; rw [if_pos rfl, if_pos (by omega)]
    · rw [if_neg e]
      show (if j < k then f j else 0) = _
      by_cases e2 : j < k
      · rw [if_pos e2, if_pos (by omega)]
      · rw [if_neg e2, if_neg (by omega)])⟩
set_option maxHeartbeats 1600000 in
theorem ArNew_c (a : Option Addr) (n cap : Nat) (f : Nat → Int) (hn : n ≤ 20000) (w : World) (hr : WordsAt w a n f) :
    Calls Tryz.prog 75 #[.slice a n cap] w (NewPost w n f) := by
  have HR := Lib.hid hr
  have HS := Lib.hid (NewBox.start w n f hn)
  have hmk := make_cells n hn
  clear hr
  go_enter Tryz.func75, Tryz.ntmps75
  go_wp2_with fail
  clear hmk
  go_loopw [13] (fun vi wr => ∃ k : Nat, vi = .int .i64 k ∧ k ≤ n ∧ Hid (NewBox w wr n f k)) (fun vi _ => n - (intOf vi).toNat)
  case atStart => exact ⟨0, rfl, Nat.zero_le _, HS⟩
  case round =>
    clear HS
    obtain ⟨k, rfl, hk, HB⟩ := hrel
    by_cases hlt : k < n
    · obtain ⟨b, off, rfl, hc⟩ := (HR.out.below HB.out.old).at' hlt
      have HN := Lib.hid HB.out.next
      have HX := Lib.hid (Store_in HB.out.ar k hlt (f k))
      generalize f k = x at hc HX HN
      clear HB
      go_wp2_with fail
      refine HX.out.mono ?_
      rintro e w' ⟨rfl, rfl⟩
      clear HX hc
      go_wp2_with fail
      go_roundw
      case rel => exact ⟨k + 1, by go_num, by omega, HN⟩
      case measure => simp [intOf]; omega
    · obtain rfl : k = n := by omega
      go_wp2_with fail
      go_ret
      exact ⟨rfl, HB.out.ar.congr (fun j hj => by rw [if_pos hj]), HB.out.old⟩
end Go.Proofs.YtbpooljohjkbjaaGreatDoor
