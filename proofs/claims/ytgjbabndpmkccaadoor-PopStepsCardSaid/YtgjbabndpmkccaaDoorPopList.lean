/- Package pop's List, of any words: the cells of the free list, or none. -/
import Derived.Test.YtgjbabndpmkccaaDoorPopReach
import Derived.Test.YtgjbabndpmkccaaDoorHandCalls
import Derived.Test.YtgjbabndpmkccaaDoorPlaceFirst
import Derived.Deep.AppendLies
import Derived.Deep.Onto
import Derived.Deep.LoopGhost
import Derived.WalkMore
namespace Go.Proofs.YtgjbabndpmkccaaDoor
open Go Go.RowKit
set_option maxRecDepth 100000
attribute [local go_sem ↓] Go.wp_at_zero Go.wp_at_succ

theorem word_nat {x : Int} (h : U64 x) : ∃ v : Nat, x = v ∧ v < 18446744073709551616 := by obtain ⟨h1, h2⟩ := h; exact ⟨x.toNat, by omega, by omega⟩
theorem infoInt : (Tryd.prog.info? 3).map (fun i => (i.zero, i.size, i.bytes)) = some (some (.int .i64 0), 1, 8) := by kernel_rfl
theorem infoBool : (Tryd.prog.info? 4).map (fun i => (i.zero, i.size, i.bytes)) = some (some (.bool false), 1, 1) := by kernel_rfl
theorem make_bools (n : Nat) (hn : n ≤ 20000) (w : World) : (Instr.makeSlice 75 (.int .i64 (n : Int)) (.int .i64 (n : Int))).run Tryd.prog w = .ok (.slice (some ⟨w.heap.size, 0, none⟩) n n) (w.alloc (.cells (madeCells #[.bool false] n) 4)) :=
  run_make_row' 75 4 (.bool false) 1 Tryd.underlying75 infoBool rfl .i64 .i64 n (by omega) (by omega) w
/-- Numbers as values. -/
def intsV (L : List Nat) : List Value := L.map fun (i : Nat) => Value.int .i64 (i : Int)
theorem intsV_snoc (L : List Nat) (i : Nat) : intsV (L ++ [i]) = intsV L ++ [.int .i64 (i : Int)] := by simp [intsV]
theorem intsV_length (L : List Nat) : (intsV L).length = L.length := by simp [intsV]
/-- What List answers. -/
def ListPost (w : World) (r : Option (List Nat)) (e : Ending) (w' : World) : Prop :=
  ∃ v, e = .returned (.tuple #[v, .bool r.isSome]) ∧ w'.ownsRow w.heap.size 3 1 v (r.getD []).length (intsV (r.getD [])) ∧ Below w.heap.size w w'
theorem ListPost.none {w w' : World} (h : Below w.heap.size w w') : ListPost w Option.none (.returned (.tuple #[.slice Option.none 0 0, .bool false])) w' := ⟨_, rfl, World.ownsRow_nil _ _ _ _, h⟩
/-- What comes behind a cell. -/
def nxF (b c d : Int) (f : Nat → Int) (i : Nat) : Int := f (cdrP b c d i)
theorem cdrP_part {a b c d : Int} (hr : Right a b c d) {i : Nat} (hi : (i : Int) < a) : partP a b c d 1 (i : Int) = (cdrP b c d i : Int) ∧ ((cdrP b c d i : Nat) : Int) < 5 + b + d + b * c + 3 * a ∧ 5 ≤ cdrP b c d i := by
  have hp := hr.prod
  rw [partP_in hr 1 i (by omega) hi]
  unfold cdrP
  unfold Right at hr
  omega
/-- How far List is. -/
structure LSt (w wr : World) (v : Value) (f : Nat → Int) (a b c d : Int) (m n M G : Nat) (L : List Nat) (p : Nat) : Prop where
  old : Below w.heap.size w wr
  lo : w.heap.size ≤ M
  mg : M < G
  way : Way f (nxF b c d f) m n L p
  row : wr.ownsRow (G + 1) 3 1 v L.length (intsV L)
  met : wr.rowIs G 4 m (fun j => .bool (decide (j ∈ L)))
  map : BoxAt wr M a b c d
  size : G + 1 ≤ wr.heap.size
theorem LSt.first {w V W : World} (f : Nat → Int) (a b c d : Int) {m n : Nat} (hn : 0 < n) (hb : Below w.heap.size w V) (t : TypeId) (hb2 : Below (V.alloc (.cells #[.int .i64 a, .int .i64 b, .int .i64 c, .int .i64 d] t)).heap.size (V.alloc (.cells #[.int .i64 a, .int .i64 b, .int .i64 c, .int .i64 d] t)) W) :
    LSt w (W.alloc (.cells (madeCells #[.bool false] m) 4)) (.slice none 0 0) f a b c d m n V.heap.size W.heap.size [] 0 := by
  have hs := hb2.size
  rw [show (V.alloc (.cells #[.int .i64 a, .int .i64 b, .int .i64 c, .int .i64 d] t)).heap.size = V.heap.size + 1 by simp] at hs
  refine ⟨below_on (belowOn (below_on hb _) hb2) _, hb.size, by omega, Way.first f _ m hn, World.ownsRow_nil _ _ _ _, ?_, ((BoxAt.new V a b c d t).below hb2).below (below_new _ _), by simp⟩
  exact (World.rowIs_made W (.bool false) m 4).congr (fun i _ => by simp)
theorem LSt.add {w wr w2 : World} {v v' : Value} {f : Nat → Int} {a b c d : Int} {m n M G : Nat} {L : List Nat} {p i q : Nat} (h : LSt w wr v f a b c d m n M G L p) (hw : Way f (nxF b c d f) m n (L ++ [i]) q) (o : Obj)
    (hg : ((wr.setCell ⟨G, i, none⟩ (.bool true)).alloc o).grownBy w2 v.ownBlock) (hown : w2.ownsRow (G + 1) 3 1 v' (L.length + 1) (intsV L ++ [.int .i64 (i : Int)])) : LSt w w2 v' f a b c d m n M G (L ++ [i]) q := by
  have hrow := fun j e => h.row.lt j e
  have hM1 : G < wr.heap.size := h.met.lt
  have hsz := h.size
  have hlo := h.lo
  have hmg := h.mg
  have hne : ∀ k, k < G + 1 → some k ≠ v.ownBlock := fun k hk e => by have := (hrow k e.symm).1; omega
  have hb1 : Below w.heap.size w ((wr.setCell ⟨G, i, none⟩ (.bool true)).alloc o) := (h.old.setCell (p := ⟨G, i, none⟩) (by show w.heap.size ≤ G; omega) (.bool true)).alloc (by have := h.old.size; simpa [World.setCell] using this) o
  have hsz1 : ((wr.setCell ⟨G, i, none⟩ (.bool true)).alloc o).heap.size = wr.heap.size + 1 := by simp [World.setCell]
  have keep : ∀ k, k < G + 1 → w2.heap[k]? = (wr.setCell ⟨G, i, none⟩ (.bool true)).heap[k]? := fun k hk => by
    rw [hg.block k (by omega) (hne k hk)]
    exact (below_new (wr.setCell ⟨G, i, none⟩ (.bool true)) o).block k (by simp [World.setCell]; omega)
  refine ⟨hb1.grown hg (by rw [hsz1]; have := h.old.size; omega) (fun k e => by have := (hrow k e).1; omega), hlo, hmg, hw, ?_, ?_, ?_, by have := hg.size; omega⟩
  · rw [intsV_snoc, List.length_append]; exact hown
  · refine ((h.met.set i (.bool true)).of_block (keep G (by omega))).congr (fun j _ => ?_)
    by_cases e : j = i
    · rw [if_pos e, e]; simp
    · rw [if_neg e]; simp [e]
  · have hk : w2.heap[M]? = wr.heap[M]? := (keep M (by omega)).trans (Below.heap_setCell _ _ _ _ (by show M ≠ G; omega))
    obtain ⟨h1, h2, h3, h4⟩ := h.map
    exact ⟨(World.cell?_of_block hk).trans h1, (World.cell?_of_block hk).trans h2, (World.cell?_of_block hk).trans h3, (World.cell?_of_block hk).trans h4⟩
theorem LSt.below {w wr w2 : World} {v : Value} {f : Nat → Int} {a b c d : Int} {m n M G : Nat} {L : List Nat} {p : Nat} (h : LSt w wr v f a b c d m n M G L p) (hb : Below wr.heap.size wr w2) : LSt w w2 v f a b c d m n M G L p :=
  ⟨belowOn h.old hb, h.lo, h.mg, h.way, ownsRow_below4 h.row hb, h.met.of_block (hb.block _ h.met.lt), h.map.below hb, Nat.le_trans h.size hb.size⟩
theorem LSt.mine {w wr : World} {v : Value} {f : Nat → Int} {a b c d : Int} {m n M G : Nat} {L : List Nat} {p : Nat} (h : LSt w wr v f a b c d m n M G L p) : wr.ownsRow w.heap.size 3 1 v L.length (intsV L) := h.row.mono (by have := h.lo; have := h.mg; omega)
theorem list_wrong (a b c d : Int) (hr : ¬ Right a b c d) (va : Option Addr) (n c0 : Nat) (w : World) (hS : SpansAt w) :
    Calls Tryd.prog 13 #[.agg #[.int .i64 a, .int .i64 b, .int .i64 c, .int .i64 d], .slice va n c0] w (ListPost w none) := by
  have HB0 := Lib.hid (below_new w (.cells #[.int .i64 a, .int .i64 b, .int .i64 c, .int .i64 d] 23))
  have HX0 := Lib.hid (BoxAt.new w a b c d 23)
  have HN : Hid (∀ W, SpansAt W → Calls Tryd.prog 32 #[.agg #[.int .i64 a, .int .i64 b, .int .i64 c, .int .i64 d]] W fun e w' => e = .returned (.tuple #[.agg #[.int .i64 0, .int .i64 0, .int .i64 0, .int .i64 0], .int .i64 2]) ∧ Below W.heap.size W w') := Lib.hid (fun W h => New_wrong a b c d hr W h)
  have HS := Lib.hid (hS.below HB0.out)
  clear hr hS
  obtain ⟨x0, x1, x2, x3⟩ := HX0.out
  go_enter Tryd.func13, Tryd.ntmps13
  go_wp2_with fail
  try go_step3
  go_wp2_with fail
  refine (HN.out _ HS.out).mono ?_
  rintro e W1 ⟨rfl, hW⟩
  have HB1 := Lib.hid (belowOn HB0.out hW)
  clear hW HB0 HX0 HN HS x0 x1 x2 x3
  go_wp2_with fail
  rw [Exit.noGoto_ret]
  refine bodyPost_ret (v := .tuple #[.slice none 0 0, .bool false]) (by simp [results, Tryd.f13, go_sem]) rfl ?_
  exact ListPost.none (below_on HB1.out _)
theorem list_len (a b c d : Int) (hr : Right a b c d) (va : Option Addr) (n c0 : Nat) (hn : ¬ (n : Int) = 5 + b + d + b * c + 3 * a) (w : World) (hS : SpansAt w) :
    Calls Tryd.prog 13 #[.agg #[.int .i64 a, .int .i64 b, .int .i64 c, .int .i64 d], .slice va n c0] w (ListPost w none) := by
  have HB0 := Lib.hid (below_new w (.cells #[.int .i64 a, .int .i64 b, .int .i64 c, .int .i64 d] 23))
  have HX0 := Lib.hid (BoxAt.new w a b c d 23)
  have HN : Hid (∀ W, SpansAt W → Calls Tryd.prog 32 #[.agg #[.int .i64 a, .int .i64 b, .int .i64 c, .int .i64 d]] W fun e w' => e = .returned (.tuple #[.agg #[.int .i64 a, .int .i64 b, .int .i64 c, .int .i64 d], .int .i64 0]) ∧ Below W.heap.size W w') := Lib.hid (fun W h => New_right a b c d hr W h)
  have HZ : Hid (∀ W, SpansAt W → Calls Tryd.prog 33 #[.agg #[.int .i64 a, .int .i64 b, .int .i64 c, .int .i64 d]] W fun e w' => e = .returned (.int .i64 (5 + b + d + b * c + 3 * a)) ∧ Below W.heap.size W w') := Lib.hid (fun W h => by have := Size_c a b c d W h; rw [sizeP_right hr] at this; exact this)
  have hq : ((n : Int) != 5 + b + d + b * c + 3 * a) = true := by simpa using hn
  generalize 5 + b + d + b * c + 3 * a = z at *
  have HS := Lib.hid (hS.below HB0.out)
  clear hr hS hn
  obtain ⟨x0, x1, x2, x3⟩ := HX0.out
  go_enter Tryd.func13, Tryd.ntmps13
  go_wp2_with fail
  go_step3
  go_wp2_with fail
  refine (HN.out _ HS.out).mono ?_
  rintro e W1 ⟨rfl, hW⟩
  have HB1 := Lib.hid (below_on (belowOn HB0.out hW) (.cells #[.int .i64 a, .int .i64 b, .int .i64 c, .int .i64 d] 54))
  have HS1 := Lib.hid ((HS.out.below hW).below (below_new _ (.cells #[.int .i64 a, .int .i64 b, .int .i64 c, .int .i64 d] 54)))
  clear hW HB0 HX0 HN HS x0 x1 x2 x3
  go_wp2_with fail
  refine (HZ.out _ HS1.out).mono ?_
  rintro e W2 ⟨rfl, hW⟩
  have HB2 := Lib.hid (belowOn HB1.out hW)
  clear hW HB1 HS1 HZ
  go_wp2_with fail
  rw [Exit.noGoto_ret]
  refine bodyPost_ret (v := .tuple #[.slice none 0 0, .bool false]) (by simp [results, Tryd.f13, go_sem]) rfl ?_
  exact ListPost.none HB2.out
set_option maxHeartbeats 12800000 in
theorem list_right (a b c d : Int) (hr : Right a b c d) (va : Option Addr) (n c0 : Nat) (f : Nat → Int) (hn : (n : Int) = 5 + b + d + b * c + 3 * a) (hu : ∀ j, U64 (f j)) (w : World) (hS : SpansAt w) (hW : WordsAt w va n f) :
    Calls Tryd.prog 13 #[.agg #[.int .i64 a, .int .i64 b, .int .i64 c, .int .i64 d], .slice va n c0] w (ListPost w (listF (nxF b c d f) a.toNat (f 0))) := by
  obtain ⟨i50, hi50, hz0, hz1, hz2⟩ := info_parts infoInt
  obtain ⟨m, rfl⟩ : ∃ m : Nat, a = m := ⟨a.toNat, by unfold Right at hr; omega⟩
  have hm : m ≤ 4096 := by unfold Right at hr; omega
  have hn0 : 0 < n := by have := hr.prod; unfold Right at hr; omega
  have hmk := make_bools m (by omega)
  have HB0 := Lib.hid (below_new w (.cells #[.int .i64 (m : Int), .int .i64 b, .int .i64 c, .int .i64 d] 23))
  have HX0 := Lib.hid (BoxAt.new w (m : Int) b c d 23)
  have HN : Hid (∀ W, SpansAt W → Calls Tryd.prog 32 #[.agg #[.int .i64 (m : Int), .int .i64 b, .int .i64 c, .int .i64 d]] W fun e w' => e = .returned (.tuple #[.agg #[.int .i64 (m : Int), .int .i64 b, .int .i64 c, .int .i64 d], .int .i64 0]) ∧ Below W.heap.size W w') := Lib.hid (fun W h => New_right m b c d hr W h)
  have HZ : Hid (∀ W, SpansAt W → Calls Tryd.prog 33 #[.agg #[.int .i64 (m : Int), .int .i64 b, .int .i64 c, .int .i64 d]] W fun e w' => e = .returned (.int .i64 (n : Int)) ∧ Below W.heap.size W w') := Lib.hid (fun W h => by have := Size_c m b c d W h; rw [sizeP_right hr, ← hn] at this; exact this)
  have HC : Hid (∀ (i : Nat) W, i < m → SpansAt W → Calls Tryd.prog 35 #[.agg #[.int .i64 (m : Int), .int .i64 b, .int .i64 c, .int .i64 d], .int .i64 (i : Int)] W fun e w' => e = .returned (.int .i64 (cdrP b c d i : Int)) ∧ Below W.heap.size W w') := Lib.hid (fun i W hi h => by have := Cdr_c m b c d i W h; rw [(cdrP_part hr (by omega)).1] at this; exact this)
  have HP : Hid (∀ i : Nat, i < m → cdrP b c d i < n) := Lib.hid (fun i hi => by have := (cdrP_part hr (i := i) (by omega)).2.1; omega)
  have HU := Lib.hid hu; have HWd := Lib.hid hW
  have HS := Lib.hid (hS.below HB0.out)
  have HS0 := Lib.hid hS
  simp only [Int.toNat_natCast]
  clear hr hS hn hu hW
  obtain ⟨x0, x1, x2, x3⟩ := HX0.out
  go_enter Tryd.func13, Tryd.ntmps13
  go_wp2_with fail
  go_step3
  go_wp2_with fail
  refine (HN.out _ HS.out).mono ?_
  rintro e W1 ⟨rfl, hW⟩
  have HB1 := Lib.hid (belowOn HB0.out hW)
  have HS1 := Lib.hid ((HS.out.below hW).below (below_new _ (.cells #[.int .i64 (m : Int), .int .i64 b, .int .i64 c, .int .i64 d] 54)))
  clear hW HB0 HX0 HN HS x0 x1 x2 x3
  go_wp2_with fail
  refine (HZ.out _ HS1.out).mono ?_
  rintro e W2 ⟨rfl, hW⟩
  have HF := Lib.hid (LSt.first f m b c d (m := m) hn0 HB1.out 54 hW)
  have HX2 := Lib.hid ((BoxAt.new W1 m b c d 54).below hW)
  clear hW HB1 HS1 HZ
  generalize W1.heap.size = M at *
  obtain ⟨x0, x1, x2, x3⟩ := HX2.out
  have hmk2 := hmk W2
  clear hmk
  go_wp2_with fail
  try go_step3
  go_wp2_with fail
  clear hmk2 HX2 x0 x1 x2 x3
  generalize W2.heap.size = G at *
  generalize (W2.alloc (.cells (madeCells #[.bool false] m) 4)) = W3 at *
  go_loopg [8, 10] (m + 1) (fun g v p wr => ∃ (L : List Nat) (q : Nat), p = .int .i64 (q : Int) ∧ L.length + g = m + 1 ∧ Hid (LSt w wr v f m b c d m n M G L q))
  case atStart => exact ⟨[], 0, rfl, by simp, HF⟩
  case round =>
    clear HF
    obtain ⟨L, q, rfl, hg, HQ⟩ := hrel
    obtain ⟨b0, off, rfl, hc⟩ := (HWd.out.below HQ.out.old).at' HQ.out.way.lt
    have hq0 : (0 : Int) ≤ (q : Int) := by omega
    have hqn : (q : Int) < (n : Int) := by have := HQ.out.way.lt; omega
    have hL := HQ.out.way.le
    obtain ⟨x0, x1, x2, x3⟩ := HQ.out.map
    obtain ⟨u, hfu, hu6⟩ := word_nat (HU.out q)
    rw [hfu] at hc
    by_cases hcl : isC u
    · obtain ⟨i, hi2, hui⟩ : ∃ i : Nat, u / 2 = i ∧ u = 2 * i + 1 := ⟨u / 2, rfl, by unfold isC at hcl; omega⟩
      have HI : Hid (∀ W, Calls Tryd.prog 34 #[.int .u64 (u : Int)] W fun e w' => e = .returned (.tuple #[.int .i64 (i : Int), .bool true]) ∧ W = w') := Lib.hid (fun W => by have := isCell_cell u hcl.2 hcl.1 W; rw [hi2] at this; exact this)
      have hu0 : ((u : Int) == 0) = false := by simp; omega
      have hi0 : (0 : Int) ≤ (i : Int) := by omega
      have HFu : Hid (f q = 2 * (i : Int) + 1) := Lib.hid (by omega)
      clear hfu hcl hi2 hui
      by_cases hia : i < m
      · have hlt : (i : Int) < (m : Int) := by omega
        have hmc := HQ.out.met.cell hia
        have hmf := HQ.out.met.frozen
        by_cases hin : i ∈ L
        · have HR : Hid (listF (nxF b c d f) m (f 0) = none) := Lib.hid (HQ.out.way.reach.twice HFu.out hin)
          rw [decide_eq_true hin] at hmc
          clear hin
          go_wp2_with fail
          refine (HI.out _).mono ?_
          rintro e W4 ⟨rfl, rfl⟩
          go_wp2_with fail
          rw [Exit.noGoto_ret]
          refine bodyPost_ret (v := .tuple #[.slice none 0 0, .bool false]) (by simp [results, Tryd.f13, go_sem]) rfl ?_
          rw [HR.out]; exact ListPost.none HQ.out.old
        · rw [decide_eq_false hin] at hmc
          have HW2 : Hid (Way f (nxF b c d f) m n (L ++ [i]) (cdrP b c d i)) := Lib.hid (HQ.out.way.next HFu.out hia hin (HP.out i hia) rfl)
          clear hin
          go_wp2_with fail
          refine (HI.out _).mono ?_
          rintro e W4 ⟨rfl, rfl⟩
          clear HI
          go_wp2_with (at_builtin; go_loud (refine wpList_append_lies _ (by rfl) _ _ _ (by rfl) (G + 1) 3 i50 _ 1 8 Tryd.underlying42 hi50 hz0 hz1 hz2 rfl (by omega) u8 L.length _ (by rfl) ((ownsRow_setCell_below HQ.out.row (Nat.lt_succ_self G) _).alloc _) ⟨wr.heap.size, 0, none⟩ 1 1 [.int .i64 (i : Int)] (by rfl) (by rfl) (World.news_of_block (cs := #[.int .i64 (i : Int)]) (t := 3) (fr := (0, 0)) (by have := heap_alloc_new (wr.setCell ⟨G, i, none⟩ (.bool true)) (.cells #[.int .i64 (i : Int)] 3); rwa [show (wr.setCell ⟨G, i, none⟩ (.bool true)).heap.size = wr.heap.size by simp [World.setCell]] at this)) (by simp [Value.oneCell']) (by omega) (by unfold maxLen; omega) (by omega) (by have := HQ.out.size; simp [World.setCell]; omega) (wr.heap.size + 1) (by simp [World.setCell]) ?_; intro gg cap w2 hown1 hgrow hat hlt2; have HQ2 := Lib.hid (HQ.out.add HW2.out _ hgrow hown1); obtain ⟨y0, y1, y2, y3⟩ := HQ2.out.map))
          clear hmf hmc hown1 hgrow hat hlt2 HQ HW2 x0 x1 x2 x3 hc
          refine (HC.out i _ hia (HS0.out.below HQ2.out.old)).mono ?_
          rintro e W5 ⟨rfl, hW⟩
          have HQ3 := Lib.hid (HQ2.out.below hW)
          clear hW HQ2 y0 y1 y2 y3
          go_wp2_with fail
          go_roundg (gk - 1)
          case measure => omega
          case rel => exact ⟨L ++ [i], _, rfl, by simp; omega, HQ3⟩
      · have hlt : ¬ (i : Int) < (m : Int) := by omega
        have HR : Hid (listF (nxF b c d f) m (f 0) = none) := Lib.hid (HQ.out.way.reach.stuck (fun j e => by have := HFu.out; omega) (.inl (by have := HFu.out; omega)))
        clear hia
        go_wp2_with fail
        refine (HI.out _).mono ?_
        rintro e W4 ⟨rfl, rfl⟩
        go_wp2_with fail
        rw [Exit.noGoto_ret]
        refine bodyPost_ret (v := .tuple #[.slice none 0 0, .bool false]) (by simp [results, Tryd.f13, go_sem]) rfl ?_
        rw [HR.out]; exact ListPost.none HQ.out.old
    · have HI : Hid (∀ W, Calls Tryd.prog 34 #[.int .u64 (u : Int)] W fun e w' => e = .returned (.tuple #[.int .i64 0, .bool false]) ∧ W = w') := Lib.hid (fun W => isCell_no u hu6 hcl W)
      by_cases hz : u = 0
      · subst hz
        rw [show ((0 : Nat) : Int) = 0 from rfl] at hc HI
        by_cases hl0 : L = []
        · subst hl0
          have HR : Hid (listF (nxF b c d f) m (f 0) = none) := Lib.hid (HQ.out.way.reach.stuck (fun j e => by omega) (.inr rfl))
          obtain ⟨ad, cap0, rfl⟩ : ∃ ad cap, u8 = .slice ad 0 cap := by
            rcases HQ.out.row.2 with ⟨h, _⟩ | ⟨g, cap, cur, h, _⟩
            · exact ⟨_, _, h⟩
            · exact ⟨_, _, h⟩
          clear hfu hcl
          go_wp2_with fail
          refine (HI.out _).mono ?_
          rintro e W4 ⟨rfl, rfl⟩
          go_wp2_with fail
          rw [Exit.noGoto_ret]
          refine bodyPost_ret (v := .tuple #[.slice none 0 0, .bool false]) (by simp [results, Tryd.f13, go_sem]) rfl ?_
          rw [HR.out]; exact ListPost.none HQ.out.old
        · have hlen : 0 < L.length := List.length_pos_iff.2 hl0
          have HR : Hid (listF (nxF b c d f) m (f 0) = some L) := Lib.hid (by have := HQ.out.way.reach; rw [hfu] at this; exact this.found hl0)
          obtain ⟨g0, cap0, rfl⟩ : ∃ g cap, u8 = .slice (some ⟨g, 0, none⟩) L.length cap := by
            rcases HQ.out.row.2 with ⟨_, h⟩ | ⟨g, cap, cur, h, _⟩
            · omega
            · exact ⟨g, cap, h⟩
          have hl1 : (0 : Int) < (L.length : Int) := by omega
          have HE : Hid (Below w.heap.size w wr ∧ wr.ownsRow w.heap.size 3 1 (.slice (some ⟨g0, 0, none⟩) L.length cap0) L.length (intsV L)) := Lib.hid ⟨HQ.out.old, HQ.out.mine⟩
          clear hfu hcl hl0 HQ hg
          generalize hll : L.length = ll at *
          go_wp2_with fail
          refine (HI.out _).mono ?_
          rintro e W4 ⟨rfl, rfl⟩
          go_wp2_with fail
          rw [Exit.noGoto_ret]
          refine bodyPost_ret (v := .tuple #[.slice (some ⟨g0, 0, none⟩) ll cap0, .bool true]) (by simp [results, Tryd.f13, go_sem]) rfl ?_
          rw [HR.out]
          exact ⟨_, rfl, by rw [show ((some L).getD []) = L from rfl, hll]; exact HE.out.2, HE.out.1⟩
      · have HR : Hid (listF (nxF b c d f) m (f 0) = none) := Lib.hid (HQ.out.way.reach.stuck (fun j e => by unfold isC at hcl; omega) (.inl (by omega)))
        have hu0 : ((u : Int) == 0) = false := by simp; omega
        clear hfu hcl hz
        go_wp2_with fail
        refine (HI.out _).mono ?_
        rintro e W4 ⟨rfl, rfl⟩
        go_wp2_with fail
        rw [Exit.noGoto_ret]
        refine bodyPost_ret (v := .tuple #[.slice none 0 0, .bool false]) (by simp [results, Tryd.f13, go_sem]) rfl ?_
        rw [HR.out]; exact ListPost.none HQ.out.old
end Go.Proofs.YtgjbabndpmkccaaDoor
