/- Package access's Text, for every access and every map: its text where it is right, the empty text where it isn't. -/
import Derived.Test.YtdhejdehlomppaaDoorAccess
import Derived.Test.YtdhejdehlomppaaDoorPlaceName2
import Derived.Test.YtdhejdehlomppaaDoorPlacePlain
import Derived.Test.YtdhejdehlomppaaDoorWordText
import Derived.Deep.RegionHeld3
import Derived.Deep.DrawnRows
namespace Go.Proofs.YtdhejdehlomppaaDoor
open Go Go.RowKit
set_option maxRecDepth 100000
attribute [local go_sem ↓] Go.wp_at_zero Go.wp_at_succ

def kindT (k : Int) : List UInt8 := if k = 1 then [108, 111, 97, 100] else if k = 2 then [115, 116, 111, 114, 101] else if k = 3 then [99, 97, 115] else [97, 100, 100]
/-- The table of the kinds' names, as its text lays it. -/
def KindAt (w : World) : Prop := ∀ j : Nat, 1 ≤ j → j ≤ 4 → w.cell? ⟨0, j, none⟩ = some (.string ⟨(kindT j).toArray⟩)
/-- What the listed variables hold. -/
structure Laid6 (w : World) : Prop where
  base : Laid4 w
  kinds : KindAt w
theorem Laid6.below {w w' : World} (h : Laid6 w) (hb : Below w.heap.size w w') : Laid6 w' :=
  ⟨h.base.below hb, fun j h1 h2 => (hb.cell (p := ⟨0, j, none⟩) (lt_of_cell (h.kinds j h1 h2))).trans (h.kinds j h1 h2)⟩
theorem Name_right (a b c d n : Int) (hr : Right a b c d) (h0 : 0 ≤ n) (hn : n < 5 + b + d + b * c + 3 * a) (w : World) (hL : Laid4 w) :
    Calls Tryd.prog 16 #[.agg #[.int .i64 a, .int .i64 b, .int .i64 c, .int .i64 d], .int .i64 n] w fun e w' => e = .returned (.string ⟨(nameOf (spotF b c d n)).toArray⟩) ∧ Below w.heap.size w w' := by
  have hs : 0 ≤ n ∧ n < sizeP a b c d := by rw [sizeP_right hr]; exact ⟨h0, hn⟩
  by_cases h5 : n < 5
  · exact Name_once a b c d n hr hs h5 w hL
  by_cases h6 : n < 5 + b
  · exact Name_in a b c d n hr hs h5 h6 w hL
  by_cases h7 : n < 5 + b + d
  · exact Name_glob a b c d n hr hs h5 h6 h7 w hL
  by_cases h8 : n < 5 + b + d + b * c
  · exact Name_reg a b c d n hr hs h5 h6 h7 h8 w hL
  have hk : (n - (5 + b + d + b * c)) % 3 = 0 ∨ (n - (5 + b + d + b * c)) % 3 = 1 ∨ (n - (5 + b + d + b * c)) % 3 = 2 := by omega
  rcases hk with hk | hk | hk
  · exact Name_car a b c d n hr hs (by omega) hk w hL
  · exact Name_cdr a b c d n hr hs (by omega) hk w hL
  · exact Name_colour a b c d n hr hs (by omega) hk w hL
theorem right_of_size {a b c d p : Int} (h0 : 0 ≤ p) (h1 : p < sizeP a b c d) : Right a b c d := by
  by_cases h : Right a b c d
  · exact h
  · unfold sizeP at h1; rw [if_neg h] at h1; omega
theorem Name_in6 (a b c d p : Int) (h0 : 0 ≤ p) (h1 : p < sizeP a b c d) (w : World) (hL : Laid4 w) :
    Calls Tryd.prog 16 #[.agg #[.int .i64 a, .int .i64 b, .int .i64 c, .int .i64 d], .int .i64 p] w fun e w' => e = .returned (.string ⟨(nameOf (spotF b c d p)).toArray⟩) ∧ Below w.heap.size w w' := by
  have hr := right_of_size h0 h1
  rw [sizeP_right hr] at h1
  exact Name_right a b c d p hr h0 h1 w hL
theorem name_short {a b c d p : Int} (h0 : 0 ≤ p) (h1 : p < sizeP a b c d) : (nameOf (spotF b c d p)).length ≤ 100 := by
  have hr := right_of_size h0 h1
  rw [sizeP_right hr] at h1
  have hp := hr.prod
  have hr' := hr
  unfold Right at hr'
  have one : ∀ k x : Int, 1 ≤ k → k ≤ 6 → k ≠ 3 → 0 ≤ x → x ≤ 4096 → (nameOf (k, x, 0)).length ≤ 100 := fun k x h1 h2 h3 h4 h5 => by
    rw [nameOf_other (by omega) h3]
    refine nm_short _ ?_ _ (by simp) (by simpa using ⟨h4, h5⟩)
    obtain rfl | rfl | rfl | rfl | rfl : k = 1 ∨ k = 2 ∨ k = 4 ∨ k = 5 ∨ k = 6 := by omega
    all_goals decide
  by_cases h5 : p < 5
  · rw [spot_once h5]
    obtain rfl | rfl | rfl | rfl | rfl : p = 0 ∨ p = 1 ∨ p = 2 ∨ p = 3 ∨ p = 4 := by omega
    all_goals decide
  by_cases h6 : p < 5 + b
  · rw [spot_in h5 h6]; exact one _ _ (by omega) (by omega) (by omega) (by omega) (by omega)
  by_cases h7 : p < 5 + b + d
  · rw [spot_glob h5 h6 h7]; exact one _ _ (by omega) (by omega) (by omega) (by omega) (by omega)
  unfold spotF
  rw [if_neg h5, if_neg h6, if_neg h7]
  by_cases h8 : p < 5 + b + d + b * c
  · rw [if_pos h8]
    have e1 : 0 ≤ (p - (5 + b + d)) / c := Int.ediv_nonneg (by omega) (by omega)
    have e2 : (p - (5 + b + d)) / c < b := Int.ediv_lt_of_lt_mul (by omega) (by omega)
    have e3 := Int.emod_nonneg (p - (5 + b + d)) (show c ≠ 0 by omega)
    have e4 := Int.emod_lt_of_pos (p - (5 + b + d)) (show 0 < c by omega)
    exact nm_short _ (by decide) _ (by simp) (by simp; omega)
  · rw [if_neg h8]
    exact one _ _ (by omega) (by omega) (by omega) (by omega) (by omega)
theorem kindT_short (k : Int) : (kindT k).length ≤ 5 := by
  unfold kindT
  repeat (split; · decide)
  decide
/-- The words that a kind uses. -/
def usedW (k : Int) (x y : Nat) : List Nat := [x, y].take (cntK k)
theorem usedW_len (k : Int) (x y : Nat) : (usedW k x y).length = cntK k := by
  unfold usedW; rcases cntK_cases k with h | h | h <;> rw [h] <;> rfl
/-- A right access's text, and its words. -/
def accL (b c d k p : Int) (x y o : Nat) : List (List UInt8) := kindT k :: nameOf (spotF b c d p) :: ((usedW k x y).map textB ++ [[119, 97, 115], textB o])
def accT (b c d k p : Int) (x y o : Nat) : List UInt8 := Lib.join (accL b c d k p x y o) [32]
def textF (a b c d k p : Int) (x y o : Nat) : List UInt8 := if RightA a b c d k p x y then accT b c d k p x y o else []
theorem textB_le (n : Nat) (h : n < 18446744073709551616) : (textB n).length ≤ 21 := by
  have := textB_short n h
  unfold textB; rw [List.length_append]; omega
theorem accT_short {a b c d k p : Int} {x y o : Nat} (h0 : 0 ≤ p) (h1 : p < sizeP a b c d) (hx : x < 18446744073709551616) (hy : y < 18446744073709551616) (ho : o < 18446744073709551616) : (accT b c d k p x y o).length ≤ 1000 := by
  have e1 := kindT_short k
  have e2 := name_short h0 h1
  have e3 := textB_le x hx; have e4 := textB_le y hy; have e5 := textB_le o ho
  unfold accT accL usedW
  rw [Lib.join_length]
  rcases cntK_cases k with h | h | h <;> rw [h] <;> simp [Lib.lens] <;> omega
/-- How far Text is: the parts so far; the access; the words that split laid down. -/
structure Parts (w wr : World) (v : Value) (T : Nat) (k p x y o : Int) (N : Nat) (l : List (List UInt8)) : Prop where
  len : l.length = N
  row : wr.ownsRow (w.heap.size + 2) 9 1 v N (l.map strV)
  old : Below w.heap.size w wr
  acc : AccAt wr (w.heap.size + 1) k p x y o
  pair : PairAt wr T x y
  ne : v.ownBlock ≠ some T
theorem Parts.below {w wr w1 : World} {v : Value} {T : Nat} {k p x y o : Int} {N : Nat} {l : List (List UInt8)} (h : Parts w wr v T k p x y o N l) (hb : Below wr.heap.size wr w1) : Parts w w1 v T k p x y o N l :=
  ⟨h.len, ownsRow_below4 h.row hb, belowOn h.old hb, h.acc.below hb, h.pair.below hb, h.ne⟩
theorem Parts.add {w wr w2 : World} {v : Value} {T : Nat} {k p x y o : Int} {N m g cap : Nat} {l l' : List (List UInt8)} (h : Parts w wr v T k p x y o N l) (ob : Obj) (hg : (wr.alloc ob).grownBy w2 v.ownBlock)
    (hown : w2.ownsRow (w.heap.size + 2) 9 1 (.slice (some ⟨g, 0, none⟩) (N + m) cap) (N + m) (l.map strV ++ l'.map strV)) (hat : v.ownBlock = some g ∨ g = wr.heap.size + 1) (hm : l'.length = m) :
    Parts w w2 (.slice (some ⟨g, 0, none⟩) (N + m) cap) T k p x y o (N + m) (l ++ l') := by
  have hla := lt_of_cell h.acc.1
  have hlt := lt_of_cell h.pair.1
  have hs : w.heap.size ≤ wr.heap.size := h.old.size
  have hna : some (w.heap.size + 1) ≠ v.ownBlock := fun e => by have := (h.row.lt _ e.symm).1; omega
  have ha := h.acc.below (below_new wr ob)
  have hp := h.pair.below (below_new wr ob)
  have ka : ∀ j z, (wr.alloc ob).cell? ⟨w.heap.size + 1, j, none⟩ = some z → w2.cell? ⟨w.heap.size + 1, j, none⟩ = some z := fun j z hz => by
    rw [hg.cell_far ⟨w.heap.size + 1, j, none⟩ (by simp; omega) hna]; exact hz
  have kp : ∀ j z, (wr.alloc ob).cell? ⟨T, j, none⟩ = some z → w2.cell? ⟨T, j, none⟩ = some z := fun j z hz => by
    rw [hg.cell_far ⟨T, j, none⟩ (by simp; omega) (fun e => h.ne e.symm)]; exact hz
  refine ⟨by rw [List.length_append, h.len, hm], by rw [List.map_append]; exact hown, (below_on h.old ob).grown hg (by simp; omega) (fun j e => by have := (h.row.lt j e).1; omega),
    ⟨ka _ _ ha.1, ka _ _ ha.2.1, ka _ _ ha.2.2.1, ka _ _ ha.2.2.2.1, ka _ _ ha.2.2.2.2⟩, ⟨kp _ _ hp.1, kp _ _ hp.2⟩, fun e => ?_⟩
  have e' : g = T := by simpa [Value.ownBlock] using e
  subst e'
  rcases hat with hat | hat
  · exact h.ne hat
  · omega
theorem Parts.join {w wr : World} {T : Nat} {k p x y o : Int} {N g cap : Nat} {l : List (List UInt8)} (h : Parts w wr (.slice (some ⟨g, 0, none⟩) N cap) T k p x y o N l) (hs : (Lib.join l [32]).length ≤ 1000) (h1 : 1 ≤ N) (h10 : N ≤ 10) (hgl : g < wr.heap.size) :
    Calls Tryd.prog 19 #[.slice (some ⟨g, 0, none⟩) N cap, .string ⟨#[32]⟩] wr fun e w' => e = .returned (.string ⟨(Lib.join l [32]).toArray⟩) ∧ Below wr.heap.size wr w' := by
  have hO := h.row
  have hlen := h.len
  have hcap : N ≤ cap := by
    rcases hO.2 with ⟨h, _⟩ | ⟨g', cap', cur, h, _, _, h', _⟩
    · cases h
    · cases h; exact h'
  have hcells : ∀ (j : Nat) x, (l.map fun l => (⟨l.toArray⟩ : ByteArray))[j]? = some x → wr.cell? ⟨g, 0 + j, none⟩ = some (.string x) := fun j x h => by
    have := hO.cells rfl j (.string x) (by
      rw [List.getElem?_map] at h ⊢
      cases h' : l[j]? with
      | none => rw [h'] at h; cases h
      | some y => rw [h'] at h; cases h; rfl)
    rw [Addr.add_lit] at this
    exact this
  have hJ := Tryd.strings_Join g 0 cap (l.map fun l => (⟨l.toArray⟩ : ByteArray)) ⟨#[32]⟩ wr hcells hgl (by simp; omega) (by simpa using (by omega : l.length ≤ cap)) (by
    rw [List.map_map, show ((fun x : ByteArray => x.data.toList) ∘ fun l : List UInt8 => (⟨l.toArray⟩ : ByteArray)) = id from funext fun l => by simp, List.map_id]
    exact Nat.le_trans hs (by decide))
  rw [List.map_map, show ((fun x : ByteArray => x.data.toList) ∘ fun l : List UInt8 => (⟨l.toArray⟩ : ByteArray)) = id from funext fun l => by simp, List.map_id] at hJ
  rw [show (l.map fun l => (⟨l.toArray⟩ : ByteArray)).length = N by simp [hlen]] at hJ
  exact hJ
theorem Text_no (a b c d k p x y o : Int) (h : ¬ RightA a b c d k p x y) (w : World) (hL : Laid6 w) :
    Calls Tryd.prog 8 #[.agg #[.int .i64 a, .int .i64 b, .int .i64 c, .int .i64 d], accV k p x y o] w fun e w' => e = .returned (.string ⟨#[]⟩) ∧ Below w.heap.size w w' := by
  have hb := below_on (below_new w (.cells #[.int .i64 a, .int .i64 b, .int .i64 c, .int .i64 d] 27)) (.cells #[.int .i64 k, .int .i64 p, .int .u64 x, .int .u64 y, .int .u64 o] 33)
  have hR := Right_c a b c d k p x y o _ (hL.base.spans.below hb)
  rw [decide_eq_false h] at hR
  have HR := Lib.hid hR
  have HB := Lib.hid hb
  obtain ⟨x0, x1, x2, x3, y0, y1, y2, y3, y4⟩ := BothAt.new w a b c d k p x y o
  clear hR hb h hL
  go_enter Tryd.func8, Tryd.ntmps8
  go_wp2_with fail
  refine HR.out.mono ?_
  rintro e W ⟨rfl, hW⟩
  have HB1 := Lib.hid (belowOn HB.out hW)
  clear hW
  go_wp2_with fail
  go_ret
  exact ⟨rfl, HB1.out⟩
set_option maxHeartbeats 6400000 in
theorem Text_1 (a b c d p : Int) (x y o : Nat) (hx : x < 18446744073709551616) (hy : y < 18446744073709551616) (ho : o < 18446744073709551616) (h : RightA a b c d 1 p x y) (w : World) (hL : Laid6 w) :
    Calls Tryd.prog 8 #[.agg #[.int .i64 a, .int .i64 b, .int .i64 c, .int .i64 d], accV 1 p x y o] w fun e w' => e = .returned (.string ⟨(accT b c d 1 p x y o).toArray⟩) ∧ Below w.heap.size w w' := by
  obtain ⟨i9, hi9, hz0, hz1, hz2⟩ := info_parts infoString4
  have hb := below_on (below_new w (.cells #[.int .i64 a, .int .i64 b, .int .i64 c, .int .i64 d] 27)) (.cells #[.int .i64 1, .int .i64 p, .int .u64 x, .int .u64 y, .int .u64 o] 33)
  have hR := Right_c a b c d 1 p x y o _ (hL.base.spans.below hb)
  rw [decide_eq_true h] at hR
  have HR := Lib.hid hR
  have HB := Lib.hid hb
  have HN := Lib.hid (Name_in6 a b c d p h.2.1.1 h.2.1.2)
  have HSh := Lib.hid (accT_short (k := 1) h.2.1.1 h.2.1.2 hx hy ho)
  have HL := Lib.hid hL
  have HBo := Lib.hid (BothAt.new w a b c d 1 p x y o)
  have HT : Hid (accT b c d 1 p x y o = Lib.join (kindT 1 :: nameOf (spotF b c d p) :: ((usedW 1 x y).map textB ++ [[119, 97, 115], textB o])) [32]) := Lib.hid rfl
  have HSp := Lib.hid (split_c 1 p x y o)
  rw [show cntK 1 = 0 by decide, show isK 1 = true by decide] at HSp
  have hu : usedW 1 x y = [] := rfl
  rw [hu] at HT
  obtain ⟨kn, HKN⟩ : ∃ kn, Hid (kindT ((1 : Nat) : Int) = kn) := ⟨_, Lib.hid rfl⟩
  rw [show kindT 1 = kn from HKN.out] at HT
  generalize accT b c d 1 p x y o = tx at *
  generalize nameOf (spotF b c d p) = nm at *
  clear hR hb h hL hu
  obtain ⟨x0, x1, x2, x3, y0, y1, y2, y3, y4⟩ := HBo.out
  go_enter Tryd.func8, Tryd.ntmps8
  go_wp2_with fail
  refine HR.out.mono ?_
  rintro e W ⟨rfl, hW⟩
  have hBW := HBo.out.below hW
  have hQ : Below w.heap.size w W.drew := (belowOn HB.out hW).drew
  have hK0 := (HL.out.below hQ).kinds 1 (by omega) (by omega)
  rw [HKN.out] at hK0
  clear hW x0 x1 x2 x3 y0 y1 y2 y3 y4 HBo HB HR
  obtain ⟨x0, x1, x2, x3, y0, y1, y2, y3, y4⟩ := hBW
  go_wp2_with fail
  refine wp_region_held_drew (S := (fun w' => w'.cell? ⟨w.heap.size, 0, none⟩ = some (.int .i64 a) ∧ w'.cell? ⟨w.heap.size, 1, none⟩ = some (.int .i64 b) ∧ w'.cell? ⟨w.heap.size, 2, none⟩ = some (.int .i64 c) ∧ w'.cell? ⟨w.heap.size, 3, none⟩ = some (.int .i64 d) ∧ w'.cell? ⟨w.heap.size + 1, 0, none⟩ = some (.int .i64 1) ∧ w'.cell? ⟨w.heap.size + 1, 1, none⟩ = some (.int .i64 p) ∧ w'.cell? ⟨w.heap.size + 1, 2, none⟩ = some (.int .u64 x) ∧ w'.cell? ⟨w.heap.size + 1, 3, none⟩ = some (.int .u64 y) ∧ w'.cell? ⟨w.heap.size + 1, 4, none⟩ = some (.int .u64 o) ∧ w'.cell? ⟨0, 1, none⟩ = some (.string ⟨kn.toArray⟩))) (by kernel_rfl) ?_ (fun hHeld => ?_)
  · exact ⟨x0, x1, x2, x3, y0, y1, y2, y3, y4, hK0⟩
  refine wpAnyH_take (i := 0) (oi := { dst := some 15, op := Op.fieldAddr 33 (Operand.tmp 3) 0, type := 0, pos := "access.go:40", after := #[], guard := none }) (v := ?vk0) rfl (by kernel_rfl) (by kernel_rfl) (by kernel_rfl) (fun _ _ _ h => h) (Or.inl ⟨by rfl, ?hyk0⟩) hHeld ?_
  case hyk0 => (intro w hSw; (try dsimp only at hSw); go_simp; (try with_reducible rfl))
  try simp only [Act.put, List.setIfInBounds_toArray, List.set_cons_zero, List.set_cons_succ]
  refine wpAnyH_take (i := 1) (oi := { dst := some 16, op := Op.load 3 (Operand.tmp 15), type := 3, pos := "access.go:40", after := #[{ on := 0, ground := Ground.data }], guard := none }) (v := ?vk1) rfl (by kernel_rfl) (by kernel_rfl) (by kernel_rfl) (fun _ _ _ h => h) (Or.inl ⟨by rfl, ?hyk1⟩) hHeld ?_
  case hyk1 => (intro w hSw; (try dsimp only at hSw); go_simp; (try with_reducible rfl))
  try simp only [Act.put, List.setIfInBounds_toArray, List.set_cons_zero, List.set_cons_succ]
  refine wpAnyH_take (i := 2) (oi := { dst := some 17, op := Op.indexAddr 46 (Operand.global 0) (Operand.tmp 16), type := 0, pos := "access.go:40", after := #[{ on := 1, ground := Ground.data }], guard := none }) (v := ?vk2) rfl (by kernel_rfl) (by kernel_rfl) (by kernel_rfl) (fun _ _ _ h => h) (Or.inl ⟨by rfl, ?hyk2⟩) hHeld ?_
  case hyk2 => (intro w hSw; (try dsimp only at hSw); go_simp; (try with_reducible rfl))
  try simp only [Act.put, List.setIfInBounds_toArray, List.set_cons_zero, List.set_cons_succ]
  refine wpAnyH_take (i := 3) (oi := { dst := some 18, op := Op.load 9 (Operand.tmp 17), type := 9, pos := "access.go:40", after := #[{ on := 2, ground := Ground.data }], guard := none }) (v := ?vk3) rfl (by kernel_rfl) (by kernel_rfl) (by kernel_rfl) (fun _ _ _ h => h) (Or.inl ⟨by rfl, ?hyk3⟩) hHeld ?_
  case hyk3 => (intro w hSw; (try dsimp only at hSw); go_simp; (try with_reducible rfl))
  try simp only [Act.put, List.setIfInBounds_toArray, List.set_cons_zero, List.set_cons_succ]
  refine wpAnyH_take (i := 4) (oi := { dst := some 19, op := Op.load 27 (Operand.tmp 2), type := 27, pos := "access.go:40", after := #[], guard := none }) (v := ?vk4) rfl (by kernel_rfl) (by kernel_rfl) (by kernel_rfl) (fun _ _ _ h => h) (Or.inl ⟨by rfl, ?hyk4⟩) hHeld ?_
  case hyk4 => (intro w hSw; (try dsimp only at hSw); go_simp; (try with_reducible rfl))
  try simp only [Act.put, List.setIfInBounds_toArray, List.set_cons_zero, List.set_cons_succ]
  refine wpAnyH_take (i := 5) (oi := { dst := some 20, op := Op.fieldAddr 33 (Operand.tmp 3) 1, type := 0, pos := "access.go:40", after := #[], guard := none }) (v := ?vk5) rfl (by kernel_rfl) (by kernel_rfl) (by kernel_rfl) (fun _ _ _ h => h) (Or.inl ⟨by rfl, ?hyk5⟩) hHeld ?_
  case hyk5 => (intro w hSw; (try dsimp only at hSw); go_simp; (try with_reducible rfl))
  try simp only [Act.put, List.setIfInBounds_toArray, List.set_cons_zero, List.set_cons_succ]
  refine wpAnyH_take (i := 6) (oi := { dst := some 21, op := Op.load 3 (Operand.tmp 20), type := 3, pos := "access.go:40", after := #[{ on := 5, ground := Ground.data }], guard := none }) (v := ?vk6) rfl (by kernel_rfl) (by kernel_rfl) (by kernel_rfl) (fun _ _ _ h => h) (Or.inl ⟨by rfl, ?hyk6⟩) hHeld ?_
  case hyk6 => (intro w hSw; (try dsimp only at hSw); go_simp; (try with_reducible rfl))
  try simp only [Act.put, List.setIfInBounds_toArray, List.set_cons_zero, List.set_cons_succ]
  refine wpAnyH_ready (rs := [7]) (by kernel_rfl) (by simp) ?_
  refine AllReadyH.cons (o := { dst := some 22, op := Op.call { callee := Callee.value (Operand.func 16), args := #[Operand.tmp 19, Operand.tmp 21], argTypes := #[27, 3] }, type := 9, pos := "access.go:40", after := #[{ on := 4, ground := Ground.data }, { on := 6, ground := Ground.data }], guard := none }) rfl (fun K hK => ?_) AllReadyH.nil
  go_simp
  refine (HN.out _ (HL.out.below hQ).base).mono ?_
  rintro e v1 ⟨rfl, hV⟩
  have hX1 : BothAt w v1 a b c d 1 p x y o := BothAt.below ⟨hHeld.1, hHeld.2.1, hHeld.2.2.1, hHeld.2.2.2.1, hHeld.2.2.2.2.1, hHeld.2.2.2.2.2.1, hHeld.2.2.2.2.2.2.1, hHeld.2.2.2.2.2.2.2.1, hHeld.2.2.2.2.2.2.2.2.1⟩ hV
  have hQ1 := belowOn (w := w) hQ hV
  have hK1 := (HL.out.below hQ1).kinds 1 (by omega) (by omega)
  rw [HKN.out] at hK1
  clear hV hHeld
  try go_wp2_with fail
  refine hK.out _ _ ?_ (fun hHeld => ?_)
  · exact ⟨hX1.1, hX1.2.1, hX1.2.2.1, hX1.2.2.2.1, hX1.2.2.2.2.1, hX1.2.2.2.2.2.1, hX1.2.2.2.2.2.2.1, hX1.2.2.2.2.2.2.2.1, hX1.2.2.2.2.2.2.2.2, hK1⟩
  clear hK K
  try simp only [Act.put, List.setIfInBounds_toArray, List.set_cons_zero, List.set_cons_succ]
  refine wpAnyH_ready (rs := [8]) (by kernel_rfl) (by simp) ?_
  refine AllReadyH.cons (o := { dst := some 23, op := Op.buildSlice 28 2 #[(0, Operand.tmp 18), (1, Operand.tmp 22)], type := 28, pos := "access.go:40", after := #[{ on := 3, ground := Ground.data }, { on := 7, ground := Ground.data }], guard := none }) rfl (fun K hK => ?_) AllReadyH.nil
  go_simp
  have hX2 : BothAt w (v1.alloc (.cells #[.string ⟨kn.toArray⟩, .string ⟨nm.toArray⟩] 9)) a b c d 1 p x y o := BothAt.below hX1 (below_new _ _)
  have hK2 := (HL.out.below (below_on hQ1 (.cells #[.string ⟨kn.toArray⟩, .string ⟨nm.toArray⟩] 9))).kinds 1 (by omega) (by omega)
  rw [HKN.out] at hK2
  refine hK.out _ _ ?_ (fun hHeld => ?_)
  · exact ⟨hX2.1, hX2.2.1, hX2.2.2.1, hX2.2.2.2.1, hX2.2.2.2.2.1, hX2.2.2.2.2.2.1, hX2.2.2.2.2.2.2.1, hX2.2.2.2.2.2.2.2.1, hX2.2.2.2.2.2.2.2.2, hK2⟩
  clear hK K
  try simp only [Act.put, List.setIfInBounds_toArray, List.set_cons_zero, List.set_cons_succ]
  refine wpAnyH_take (i := 9) (oi := { dst := some 5, op := Op.assign (Operand.tmp 23), type := 28, pos := "access.go:40", after := #[{ on := 8, ground := Ground.data }, { on := 7, ground := Ground.chain }, { on := 0, ground := Ground.phase }, { on := 1, ground := Ground.phase }, { on := 2, ground := Ground.phase }, { on := 3, ground := Ground.phase }, { on := 4, ground := Ground.phase }, { on := 5, ground := Ground.phase }, { on := 6, ground := Ground.phase }, { on := 7, ground := Ground.phase }, { on := 8, ground := Ground.phase }], guard := none }) (v := ?vk9) rfl (by kernel_rfl) (by kernel_rfl) (by kernel_rfl) (fun _ _ _ h => h) (Or.inl ⟨by rfl, ?hyk9⟩) hHeld ?_
  case hyk9 => (intro w hSw; (try dsimp only at hSw); go_simp; (try with_reducible rfl))
  try simp only [Act.put, List.setIfInBounds_toArray, List.set_cons_zero, List.set_cons_succ]
  refine wpAnyH_done (by kernel_rfl) ?_ _
  have hl1 := lt_of_cell hX1.2.2.2.2.1
  have hrow : (v1.alloc (.cells #[.string ⟨kn.toArray⟩, .string ⟨nm.toArray⟩] 9)).ownsRow (w.heap.size + 2) 9 1 (.slice (some ⟨v1.heap.size, 0, none⟩) 2 2) 2 ([kn, nm].map strV) := by
    simpa [strV] using World.ownsRow_lit (base := w.heap.size + 2) (e := 9) (size := 1) v1 #[.string ⟨kn.toArray⟩, .string ⟨nm.toArray⟩] 2 (by omega) (by unfold maxLen; omega) (by simp)
  have hacc : AccAt (v1.alloc (.cells #[.string ⟨kn.toArray⟩, .string ⟨nm.toArray⟩] 9)) (w.heap.size + 1) 1 p x y o := hX2.2.2.2.2
  have hold : Below w.heap.size w (v1.alloc (.cells #[.string ⟨kn.toArray⟩, .string ⟨nm.toArray⟩] 9)) := below_on hQ1 _
  have hsz : (v1.alloc (.cells #[.string ⟨kn.toArray⟩, .string ⟨nm.toArray⟩] 9)).heap.size = v1.heap.size + 1 := by simp
  clear hX1 hX2 hQ1 hK1 hK2 hHeld hQ hK0 HKN HN x0 x1 x2 x3 y0 y1 y2 y3 y4 hl1
  generalize v1.alloc (.cells #[.string ⟨kn.toArray⟩, .string ⟨nm.toArray⟩] 9) = V at *
  generalize v1.heap.size = g0 at *
  have Hrow := Lib.hid hrow; have Hold := Lib.hid hold; have Hacc := Lib.hid hacc
  obtain ⟨y0, y1, y2, y3, y4⟩ := hacc
  clear hrow hold
  go_wp2_with fail
  refine (HSp.out V).mono ?_
  rintro e W3 ⟨rfl, hW3, hP3⟩
  have HP0 : Hid (Parts w W3 (.slice (some ⟨g0, 0, none⟩) 2 2) (V.heap.size + 1) 1 p x y o 2 [kn, nm]) := Lib.hid ⟨rfl, ownsRow_below4 Hrow.out hW3, belowOn Hold.out hW3, Hacc.out.below hW3, hP3, by simp [Value.ownBlock]; omega⟩
  clear hW3 hP3 HSp Hrow Hold Hacc y0 y1 y2 y3 y4
  generalize V.heap.size + 1 = T at *
  clear hsz
  go_wp2_with fail
  go_loopw [5, 32] (fun v vi wr => ∃ i : Nat, vi = .int .i64 i ∧ i ≤ 0 ∧ Hid (Parts w wr v T 1 p x y o (2 + i) (kn :: nm :: (([] : List Nat).take i).map textB))) (fun _ vi _ => 0 - (intOf vi).toNat)
  case atStart => exact ⟨0, rfl, by omega, HP0⟩
  case round =>
    clear HP0
    obtain ⟨i, rfl, hi, HP⟩ := hrel
    by_cases hlt : i < 0
    · omega
    · obtain rfl : i = 0 := by omega
      have HX := Lib.hid (text_c o ho wr (HL.out.below HP.out.old).base.pow)
      obtain ⟨y0, y1, y2, y3, y4⟩ := HP.out.acc
      go_wp2_with fail
      refine HX.out.mono ?_
      rintro e w1 ⟨rfl, hW⟩
      have hPt := HP.out.below hW
      have hO := hPt.row
      have hm1 : w.heap.size + 2 ≤ w1.heap.size := lt_of_cell hPt.acc.1
      have HPt := Lib.hid hPt
      clear hW HX HP hPt y0 y1 y2 y3 y4
      generalize textB o = s at *
      go_wp2_with (at_builtin; refine wpList_append_lies _ (by rfl) _ _ _ (by rfl) (w.heap.size + 2) 9 i9 _ 1 16 Tryd.underlying28 hi9 hz0 hz1 hz2 rfl (by omega) u5 (2 + 0) _ (by rfl) (hO.alloc _) ⟨w1.heap.size, 0, none⟩ 2 2 [.string ⟨#[119, 97, 115]⟩, .string ⟨s.toArray⟩] (by rfl) (by rfl) (World.news_of_block (cs := #[.string ⟨#[119, 97, 115]⟩, .string ⟨s.toArray⟩]) (t := 9) (fr := (0, 0)) (heap_alloc_new w1 _)) (by simp [Value.oneCell']) (by omega) (by unfold maxLen; omega) (by omega) (by simp; omega) (w1.heap.size + 1) (by simp) ?_; intro gg cap' w2 hown1 hgrow hat hlt2)
      have hF := HPt.out.add _ hgrow (l' := [[119, 97, 115], s]) hown1 hat rfl
      have hsh := HSh.out
      rw [HT.out] at hsh
      have HJ := Lib.hid (hF.join hsh (by omega) (by omega) hlt2)
      have HBf := Lib.hid hF.old
      clear hown1 hgrow hat hlt2 hO HPt hF hsh
      go_wp2_with fail
      refine HJ.out.mono ?_
      rintro e w' ⟨rfl, hW⟩
      go_wp2_with fail
      go_ret
      refine ⟨?_, belowOn HBf.out hW⟩
      rw [HT.out]; rfl
set_option maxHeartbeats 6400000 in
theorem Text_2 (a b c d p : Int) (x y o : Nat) (hx : x < 18446744073709551616) (hy : y < 18446744073709551616) (ho : o < 18446744073709551616) (h : RightA a b c d 2 p x y) (w : World) (hL : Laid6 w) :
    Calls Tryd.prog 8 #[.agg #[.int .i64 a, .int .i64 b, .int .i64 c, .int .i64 d], accV 2 p x y o] w fun e w' => e = .returned (.string ⟨(accT b c d 2 p x y o).toArray⟩) ∧ Below w.heap.size w w' := by
  obtain ⟨i9, hi9, hz0, hz1, hz2⟩ := info_parts infoString4
  have hb := below_on (below_new w (.cells #[.int .i64 a, .int .i64 b, .int .i64 c, .int .i64 d] 27)) (.cells #[.int .i64 2, .int .i64 p, .int .u64 x, .int .u64 y, .int .u64 o] 33)
  have hR := Right_c a b c d 2 p x y o _ (hL.base.spans.below hb)
  rw [decide_eq_true h] at hR
  have HR := Lib.hid hR
  have HB := Lib.hid hb
  have HN := Lib.hid (Name_in6 a b c d p h.2.1.1 h.2.1.2)
  have HSh := Lib.hid (accT_short (k := 2) h.2.1.1 h.2.1.2 hx hy ho)
  have HL := Lib.hid hL
  have HBo := Lib.hid (BothAt.new w a b c d 2 p x y o)
  have HT : Hid (accT b c d 2 p x y o = Lib.join (kindT 2 :: nameOf (spotF b c d p) :: ((usedW 2 x y).map textB ++ [[119, 97, 115], textB o])) [32]) := Lib.hid rfl
  have HSp := Lib.hid (split_c 2 p x y o)
  rw [show cntK 2 = 1 by decide, show isK 2 = true by decide] at HSp
  have hu : usedW 2 x y = [x] := rfl
  rw [hu] at HT
  obtain ⟨kn, HKN⟩ : ∃ kn, Hid (kindT ((2 : Nat) : Int) = kn) := ⟨_, Lib.hid rfl⟩
  rw [show kindT 2 = kn from HKN.out] at HT
  generalize accT b c d 2 p x y o = tx at *
  generalize nameOf (spotF b c d p) = nm at *
  clear hR hb h hL hu
  obtain ⟨x0, x1, x2, x3, y0, y1, y2, y3, y4⟩ := HBo.out
  go_enter Tryd.func8, Tryd.ntmps8
  go_wp2_with fail
  refine HR.out.mono ?_
  rintro e W ⟨rfl, hW⟩
  have hBW := HBo.out.below hW
  have hQ : Below w.heap.size w W.drew := (belowOn HB.out hW).drew
  have hK0 := (HL.out.below hQ).kinds 2 (by omega) (by omega)
  rw [HKN.out] at hK0
  clear hW x0 x1 x2 x3 y0 y1 y2 y3 y4 HBo HB HR
  obtain ⟨x0, x1, x2, x3, y0, y1, y2, y3, y4⟩ := hBW
  go_wp2_with fail
  refine wp_region_held_drew (S := (fun w' => w'.cell? ⟨w.heap.size, 0, none⟩ = some (.int .i64 a) ∧ w'.cell? ⟨w.heap.size, 1, none⟩ = some (.int .i64 b) ∧ w'.cell? ⟨w.heap.size, 2, none⟩ = some (.int .i64 c) ∧ w'.cell? ⟨w.heap.size, 3, none⟩ = some (.int .i64 d) ∧ w'.cell? ⟨w.heap.size + 1, 0, none⟩ = some (.int .i64 2) ∧ w'.cell? ⟨w.heap.size + 1, 1, none⟩ = some (.int .i64 p) ∧ w'.cell? ⟨w.heap.size + 1, 2, none⟩ = some (.int .u64 x) ∧ w'.cell? ⟨w.heap.size + 1, 3, none⟩ = some (.int .u64 y) ∧ w'.cell? ⟨w.heap.size + 1, 4, none⟩ = some (.int .u64 o) ∧ w'.cell? ⟨0, 2, none⟩ = some (.string ⟨kn.toArray⟩))) (by kernel_rfl) ?_ (fun hHeld => ?_)
  · exact ⟨x0, x1, x2, x3, y0, y1, y2, y3, y4, hK0⟩
  refine wpAnyH_take (i := 0) (oi := { dst := some 15, op := Op.fieldAddr 33 (Operand.tmp 3) 0, type := 0, pos := "access.go:40", after := #[], guard := none }) (v := ?vk0) rfl (by kernel_rfl) (by kernel_rfl) (by kernel_rfl) (fun _ _ _ h => h) (Or.inl ⟨by rfl, ?hyk0⟩) hHeld ?_
  case hyk0 => (intro w hSw; (try dsimp only at hSw); go_simp; (try with_reducible rfl))
  try simp only [Act.put, List.setIfInBounds_toArray, List.set_cons_zero, List.set_cons_succ]
  refine wpAnyH_take (i := 1) (oi := { dst := some 16, op := Op.load 3 (Operand.tmp 15), type := 3, pos := "access.go:40", after := #[{ on := 0, ground := Ground.data }], guard := none }) (v := ?vk1) rfl (by kernel_rfl) (by kernel_rfl) (by kernel_rfl) (fun _ _ _ h => h) (Or.inl ⟨by rfl, ?hyk1⟩) hHeld ?_
  case hyk1 => (intro w hSw; (try dsimp only at hSw); go_simp; (try with_reducible rfl))
  try simp only [Act.put, List.setIfInBounds_toArray, List.set_cons_zero, List.set_cons_succ]
  refine wpAnyH_take (i := 2) (oi := { dst := some 17, op := Op.indexAddr 46 (Operand.global 0) (Operand.tmp 16), type := 0, pos := "access.go:40", after := #[{ on := 1, ground := Ground.data }], guard := none }) (v := ?vk2) rfl (by kernel_rfl) (by kernel_rfl) (by kernel_rfl) (fun _ _ _ h => h) (Or.inl ⟨by rfl, ?hyk2⟩) hHeld ?_
  case hyk2 => (intro w hSw; (try dsimp only at hSw); go_simp; (try with_reducible rfl))
  try simp only [Act.put, List.setIfInBounds_toArray, List.set_cons_zero, List.set_cons_succ]
  refine wpAnyH_take (i := 3) (oi := { dst := some 18, op := Op.load 9 (Operand.tmp 17), type := 9, pos := "access.go:40", after := #[{ on := 2, ground := Ground.data }], guard := none }) (v := ?vk3) rfl (by kernel_rfl) (by kernel_rfl) (by kernel_rfl) (fun _ _ _ h => h) (Or.inl ⟨by rfl, ?hyk3⟩) hHeld ?_
  case hyk3 => (intro w hSw; (try dsimp only at hSw); go_simp; (try with_reducible rfl))
  try simp only [Act.put, List.setIfInBounds_toArray, List.set_cons_zero, List.set_cons_succ]
  refine wpAnyH_take (i := 4) (oi := { dst := some 19, op := Op.load 27 (Operand.tmp 2), type := 27, pos := "access.go:40", after := #[], guard := none }) (v := ?vk4) rfl (by kernel_rfl) (by kernel_rfl) (by kernel_rfl) (fun _ _ _ h => h) (Or.inl ⟨by rfl, ?hyk4⟩) hHeld ?_
  case hyk4 => (intro w hSw; (try dsimp only at hSw); go_simp; (try with_reducible rfl))
  try simp only [Act.put, List.setIfInBounds_toArray, List.set_cons_zero, List.set_cons_succ]
  refine wpAnyH_take (i := 5) (oi := { dst := some 20, op := Op.fieldAddr 33 (Operand.tmp 3) 1, type := 0, pos := "access.go:40", after := #[], guard := none }) (v := ?vk5) rfl (by kernel_rfl) (by kernel_rfl) (by kernel_rfl) (fun _ _ _ h => h) (Or.inl ⟨by rfl, ?hyk5⟩) hHeld ?_
  case hyk5 => (intro w hSw; (try dsimp only at hSw); go_simp; (try with_reducible rfl))
  try simp only [Act.put, List.setIfInBounds_toArray, List.set_cons_zero, List.set_cons_succ]
  refine wpAnyH_take (i := 6) (oi := { dst := some 21, op := Op.load 3 (Operand.tmp 20), type := 3, pos := "access.go:40", after := #[{ on := 5, ground := Ground.data }], guard := none }) (v := ?vk6) rfl (by kernel_rfl) (by kernel_rfl) (by kernel_rfl) (fun _ _ _ h => h) (Or.inl ⟨by rfl, ?hyk6⟩) hHeld ?_
  case hyk6 => (intro w hSw; (try dsimp only at hSw); go_simp; (try with_reducible rfl))
  try simp only [Act.put, List.setIfInBounds_toArray, List.set_cons_zero, List.set_cons_succ]
  refine wpAnyH_ready (rs := [7]) (by kernel_rfl) (by simp) ?_
  refine AllReadyH.cons (o := { dst := some 22, op := Op.call { callee := Callee.value (Operand.func 16), args := #[Operand.tmp 19, Operand.tmp 21], argTypes := #[27, 3] }, type := 9, pos := "access.go:40", after := #[{ on := 4, ground := Ground.data }, { on := 6, ground := Ground.data }], guard := none }) rfl (fun K hK => ?_) AllReadyH.nil
  go_simp
  refine (HN.out _ (HL.out.below hQ).base).mono ?_
  rintro e v1 ⟨rfl, hV⟩
  have hX1 : BothAt w v1 a b c d 2 p x y o := BothAt.below ⟨hHeld.1, hHeld.2.1, hHeld.2.2.1, hHeld.2.2.2.1, hHeld.2.2.2.2.1, hHeld.2.2.2.2.2.1, hHeld.2.2.2.2.2.2.1, hHeld.2.2.2.2.2.2.2.1, hHeld.2.2.2.2.2.2.2.2.1⟩ hV
  have hQ1 := belowOn (w := w) hQ hV
  have hK1 := (HL.out.below hQ1).kinds 2 (by omega) (by omega)
  rw [HKN.out] at hK1
  clear hV hHeld
  try go_wp2_with fail
  refine hK.out _ _ ?_ (fun hHeld => ?_)
  · exact ⟨hX1.1, hX1.2.1, hX1.2.2.1, hX1.2.2.2.1, hX1.2.2.2.2.1, hX1.2.2.2.2.2.1, hX1.2.2.2.2.2.2.1, hX1.2.2.2.2.2.2.2.1, hX1.2.2.2.2.2.2.2.2, hK1⟩
  clear hK K
  try simp only [Act.put, List.setIfInBounds_toArray, List.set_cons_zero, List.set_cons_succ]
  refine wpAnyH_ready (rs := [8]) (by kernel_rfl) (by simp) ?_
  refine AllReadyH.cons (o := { dst := some 23, op := Op.buildSlice 28 2 #[(0, Operand.tmp 18), (1, Operand.tmp 22)], type := 28, pos := "access.go:40", after := #[{ on := 3, ground := Ground.data }, { on := 7, ground := Ground.data }], guard := none }) rfl (fun K hK => ?_) AllReadyH.nil
  go_simp
  have hX2 : BothAt w (v1.alloc (.cells #[.string ⟨kn.toArray⟩, .string ⟨nm.toArray⟩] 9)) a b c d 2 p x y o := BothAt.below hX1 (below_new _ _)
  have hK2 := (HL.out.below (below_on hQ1 (.cells #[.string ⟨kn.toArray⟩, .string ⟨nm.toArray⟩] 9))).kinds 2 (by omega) (by omega)
  rw [HKN.out] at hK2
  refine hK.out _ _ ?_ (fun hHeld => ?_)
  · exact ⟨hX2.1, hX2.2.1, hX2.2.2.1, hX2.2.2.2.1, hX2.2.2.2.2.1, hX2.2.2.2.2.2.1, hX2.2.2.2.2.2.2.1, hX2.2.2.2.2.2.2.2.1, hX2.2.2.2.2.2.2.2.2, hK2⟩
  clear hK K
  try simp only [Act.put, List.setIfInBounds_toArray, List.set_cons_zero, List.set_cons_succ]
  refine wpAnyH_take (i := 9) (oi := { dst := some 5, op := Op.assign (Operand.tmp 23), type := 28, pos := "access.go:40", after := #[{ on := 8, ground := Ground.data }, { on := 7, ground := Ground.chain }, { on := 0, ground := Ground.phase }, { on := 1, ground := Ground.phase }, { on := 2, ground := Ground.phase }, { on := 3, ground := Ground.phase }, { on := 4, ground := Ground.phase }, { on := 5, ground := Ground.phase }, { on := 6, ground := Ground.phase }, { on := 7, ground := Ground.phase }, { on := 8, ground := Ground.phase }], guard := none }) (v := ?vk9) rfl (by kernel_rfl) (by kernel_rfl) (by kernel_rfl) (fun _ _ _ h => h) (Or.inl ⟨by rfl, ?hyk9⟩) hHeld ?_
  case hyk9 => (intro w hSw; (try dsimp only at hSw); go_simp; (try with_reducible rfl))
  try simp only [Act.put, List.setIfInBounds_toArray, List.set_cons_zero, List.set_cons_succ]
  refine wpAnyH_done (by kernel_rfl) ?_ _
  have hl1 := lt_of_cell hX1.2.2.2.2.1
  have hrow : (v1.alloc (.cells #[.string ⟨kn.toArray⟩, .string ⟨nm.toArray⟩] 9)).ownsRow (w.heap.size + 2) 9 1 (.slice (some ⟨v1.heap.size, 0, none⟩) 2 2) 2 ([kn, nm].map strV) := by
    simpa [strV] using World.ownsRow_lit (base := w.heap.size + 2) (e := 9) (size := 1) v1 #[.string ⟨kn.toArray⟩, .string ⟨nm.toArray⟩] 2 (by omega) (by unfold maxLen; omega) (by simp)
  have hacc : AccAt (v1.alloc (.cells #[.string ⟨kn.toArray⟩, .string ⟨nm.toArray⟩] 9)) (w.heap.size + 1) 2 p x y o := hX2.2.2.2.2
  have hold : Below w.heap.size w (v1.alloc (.cells #[.string ⟨kn.toArray⟩, .string ⟨nm.toArray⟩] 9)) := below_on hQ1 _
  have hsz : (v1.alloc (.cells #[.string ⟨kn.toArray⟩, .string ⟨nm.toArray⟩] 9)).heap.size = v1.heap.size + 1 := by simp
  clear hX1 hX2 hQ1 hK1 hK2 hHeld hQ hK0 HKN HN x0 x1 x2 x3 y0 y1 y2 y3 y4 hl1
  generalize v1.alloc (.cells #[.string ⟨kn.toArray⟩, .string ⟨nm.toArray⟩] 9) = V at *
  generalize v1.heap.size = g0 at *
  have Hrow := Lib.hid hrow; have Hold := Lib.hid hold; have Hacc := Lib.hid hacc
  obtain ⟨y0, y1, y2, y3, y4⟩ := hacc
  clear hrow hold
  go_wp2_with fail
  refine (HSp.out V).mono ?_
  rintro e W3 ⟨rfl, hW3, hP3⟩
  have HP0 : Hid (Parts w W3 (.slice (some ⟨g0, 0, none⟩) 2 2) (V.heap.size + 1) 2 p x y o 2 [kn, nm]) := Lib.hid ⟨rfl, ownsRow_below4 Hrow.out hW3, belowOn Hold.out hW3, Hacc.out.below hW3, hP3, by simp [Value.ownBlock]; omega⟩
  clear hW3 hP3 HSp Hrow Hold Hacc y0 y1 y2 y3 y4
  generalize V.heap.size + 1 = T at *
  clear hsz
  go_wp2_with fail
  go_loopw [5, 32] (fun v vi wr => ∃ i : Nat, vi = .int .i64 i ∧ i ≤ 1 ∧ Hid (Parts w wr v T 2 p x y o (2 + i) (kn :: nm :: (([x] : List Nat).take i).map textB))) (fun _ vi _ => 1 - (intOf vi).toNat)
  case atStart => exact ⟨0, rfl, by omega, HP0⟩
  case round =>
    clear HP0
    obtain ⟨i, rfl, hi, HP⟩ := hrel
    by_cases hlt : i < 1
    · have hc : wr.cell? ⟨T, i, none⟩ = some (.int .u64 ((([x] : List Nat).getD i 0 : Nat) : Int)) := by
        have hp := HP.out.pair
        match i, hlt with
        | 0, _ => exact hp.1
      have hu : ([x] : List Nat).getD i 0 < 18446744073709551616 := by
        match i, hlt with
        | 0, _ => exact hx
      have HTk : Hid ((([x] : List Nat).take (i + 1)).map textB = (([x] : List Nat).take i).map textB ++ [textB (([x] : List Nat).getD i 0)]) := Lib.hid (by
        match i, hlt with
        | 0, _ => rfl)
      generalize ([x] : List Nat).getD i 0 = u at hc hu HTk
      have HX := Lib.hid (text_c u hu wr (HL.out.below HP.out.old).base.pow)
      clear hu
      go_wp2_with fail
      refine HX.out.mono ?_
      rintro e w1 ⟨rfl, hW⟩
      have hPt := HP.out.below hW
      have hO := hPt.row
      have hm1 : w.heap.size + 2 ≤ w1.heap.size := lt_of_cell hPt.acc.1
      have HPt := Lib.hid hPt
      clear hW HX HP hc hPt
      generalize textB u = s at *
      go_wp2_with (at_builtin; refine wpList_append_lies _ (by rfl) _ _ _ (by rfl) (w.heap.size + 2) 9 i9 _ 1 16 Tryd.underlying28 hi9 hz0 hz1 hz2 rfl (by omega) u5 (2 + i) _ (by rfl) (hO.alloc _) ⟨w1.heap.size, 0, none⟩ 1 1 [.string ⟨s.toArray⟩] (by rfl) (by rfl) (World.news_of_block (cs := #[.string ⟨s.toArray⟩]) (t := 9) (fr := (0, 0)) (heap_alloc_new w1 _)) (by simp [Value.oneCell']) (by omega) (by unfold maxLen; omega) (by omega) (by simp; omega) (w1.heap.size + 1) (by simp) ?_; intro gg cap' w2 hown1 hgrow hat hlt2)
      have HN : Hid (Parts w w2 (.slice (some ⟨gg, 0, none⟩) (2 + i + 1) cap') T 2 p x y o (2 + i + 1) (kn :: nm :: (([x] : List Nat).take (i + 1)).map textB)) := Lib.hid (by
        have h := HPt.out.add _ hgrow (l' := [s]) hown1 hat rfl
        rw [HTk.out]
        exact h)
      clear hown1 hgrow hat hlt2 hO HPt HTk
      go_roundw
      case rel => exact ⟨i + 1, by go_num, by omega, HN⟩
      case measure => simp [intOf]; omega
    · obtain rfl : i = 1 := by omega
      have HX := Lib.hid (text_c o ho wr (HL.out.below HP.out.old).base.pow)
      obtain ⟨y0, y1, y2, y3, y4⟩ := HP.out.acc
      go_wp2_with fail
      refine HX.out.mono ?_
      rintro e w1 ⟨rfl, hW⟩
      have hPt := HP.out.below hW
      have hO := hPt.row
      have hm1 : w.heap.size + 2 ≤ w1.heap.size := lt_of_cell hPt.acc.1
      have HPt := Lib.hid hPt
      clear hW HX HP hPt y0 y1 y2 y3 y4
      generalize textB o = s at *
      go_wp2_with (at_builtin; refine wpList_append_lies _ (by rfl) _ _ _ (by rfl) (w.heap.size + 2) 9 i9 _ 1 16 Tryd.underlying28 hi9 hz0 hz1 hz2 rfl (by omega) u5 (2 + 1) _ (by rfl) (hO.alloc _) ⟨w1.heap.size, 0, none⟩ 2 2 [.string ⟨#[119, 97, 115]⟩, .string ⟨s.toArray⟩] (by rfl) (by rfl) (World.news_of_block (cs := #[.string ⟨#[119, 97, 115]⟩, .string ⟨s.toArray⟩]) (t := 9) (fr := (0, 0)) (heap_alloc_new w1 _)) (by simp [Value.oneCell']) (by omega) (by unfold maxLen; omega) (by omega) (by simp; omega) (w1.heap.size + 1) (by simp) ?_; intro gg cap' w2 hown1 hgrow hat hlt2)
      have hF := HPt.out.add _ hgrow (l' := [[119, 97, 115], s]) hown1 hat rfl
      have hsh := HSh.out
      rw [HT.out] at hsh
      have HJ := Lib.hid (hF.join hsh (by omega) (by omega) hlt2)
      have HBf := Lib.hid hF.old
      clear hown1 hgrow hat hlt2 hO HPt hF hsh
      go_wp2_with fail
      refine HJ.out.mono ?_
      rintro e w' ⟨rfl, hW⟩
      go_wp2_with fail
      go_ret
      refine ⟨?_, belowOn HBf.out hW⟩
      rw [HT.out]; rfl
set_option maxHeartbeats 6400000 in
theorem Text_3 (a b c d p : Int) (x y o : Nat) (hx : x < 18446744073709551616) (hy : y < 18446744073709551616) (ho : o < 18446744073709551616) (h : RightA a b c d 3 p x y) (w : World) (hL : Laid6 w) :
    Calls Tryd.prog 8 #[.agg #[.int .i64 a, .int .i64 b, .int .i64 c, .int .i64 d], accV 3 p x y o] w fun e w' => e = .returned (.string ⟨(accT b c d 3 p x y o).toArray⟩) ∧ Below w.heap.size w w' := by
  obtain ⟨i9, hi9, hz0, hz1, hz2⟩ := info_parts infoString4
  have hb := below_on (below_new w (.cells #[.int .i64 a, .int .i64 b, .int .i64 c, .int .i64 d] 27)) (.cells #[.int .i64 3, .int .i64 p, .int .u64 x, .int .u64 y, .int .u64 o] 33)
  have hR := Right_c a b c d 3 p x y o _ (hL.base.spans.below hb)
  rw [decide_eq_true h] at hR
  have HR := Lib.hid hR
  have HB := Lib.hid hb
  have HN := Lib.hid (Name_in6 a b c d p h.2.1.1 h.2.1.2)
  have HSh := Lib.hid (accT_short (k := 3) h.2.1.1 h.2.1.2 hx hy ho)
  have HL := Lib.hid hL
  have HBo := Lib.hid (BothAt.new w a b c d 3 p x y o)
  have HT : Hid (accT b c d 3 p x y o = Lib.join (kindT 3 :: nameOf (spotF b c d p) :: ((usedW 3 x y).map textB ++ [[119, 97, 115], textB o])) [32]) := Lib.hid rfl
  have HSp := Lib.hid (split_c 3 p x y o)
  rw [show cntK 3 = 2 by decide, show isK 3 = true by decide] at HSp
  have hu : usedW 3 x y = [x, y] := rfl
  rw [hu] at HT
  obtain ⟨kn, HKN⟩ : ∃ kn, Hid (kindT ((3 : Nat) : Int) = kn) := ⟨_, Lib.hid rfl⟩
  rw [show kindT 3 = kn from HKN.out] at HT
  generalize accT b c d 3 p x y o = tx at *
  generalize nameOf (spotF b c d p) = nm at *
  clear hR hb h hL hu
  obtain ⟨x0, x1, x2, x3, y0, y1, y2, y3, y4⟩ := HBo.out
  go_enter Tryd.func8, Tryd.ntmps8
  go_wp2_with fail
  refine HR.out.mono ?_
  rintro e W ⟨rfl, hW⟩
  have hBW := HBo.out.below hW
  have hQ : Below w.heap.size w W.drew := (belowOn HB.out hW).drew
  have hK0 := (HL.out.below hQ).kinds 3 (by omega) (by omega)
  rw [HKN.out] at hK0
  clear hW x0 x1 x2 x3 y0 y1 y2 y3 y4 HBo HB HR
  obtain ⟨x0, x1, x2, x3, y0, y1, y2, y3, y4⟩ := hBW
  go_wp2_with fail
  refine wp_region_held_drew (S := (fun w' => w'.cell? ⟨w.heap.size, 0, none⟩ = some (.int .i64 a) ∧ w'.cell? ⟨w.heap.size, 1, none⟩ = some (.int .i64 b) ∧ w'.cell? ⟨w.heap.size, 2, none⟩ = some (.int .i64 c) ∧ w'.cell? ⟨w.heap.size, 3, none⟩ = some (.int .i64 d) ∧ w'.cell? ⟨w.heap.size + 1, 0, none⟩ = some (.int .i64 3) ∧ w'.cell? ⟨w.heap.size + 1, 1, none⟩ = some (.int .i64 p) ∧ w'.cell? ⟨w.heap.size + 1, 2, none⟩ = some (.int .u64 x) ∧ w'.cell? ⟨w.heap.size + 1, 3, none⟩ = some (.int .u64 y) ∧ w'.cell? ⟨w.heap.size + 1, 4, none⟩ = some (.int .u64 o) ∧ w'.cell? ⟨0, 3, none⟩ = some (.string ⟨kn.toArray⟩))) (by kernel_rfl) ?_ (fun hHeld => ?_)
  · exact ⟨x0, x1, x2, x3, y0, y1, y2, y3, y4, hK0⟩
  refine wpAnyH_take (i := 0) (oi := { dst := some 15, op := Op.fieldAddr 33 (Operand.tmp 3) 0, type := 0, pos := "access.go:40", after := #[], guard := none }) (v := ?vk0) rfl (by kernel_rfl) (by kernel_rfl) (by kernel_rfl) (fun _ _ _ h => h) (Or.inl ⟨by rfl, ?hyk0⟩) hHeld ?_
  case hyk0 => (intro w hSw; (try dsimp only at hSw); go_simp; (try with_reducible rfl))
  try simp only [Act.put, List.setIfInBounds_toArray, List.set_cons_zero, List.set_cons_succ]
  refine wpAnyH_take (i := 1) (oi := { dst := some 16, op := Op.load 3 (Operand.tmp 15), type := 3, pos := "access.go:40", after := #[{ on := 0, ground := Ground.data }], guard := none }) (v := ?vk1) rfl (by kernel_rfl) (by kernel_rfl) (by kernel_rfl) (fun _ _ _ h => h) (Or.inl ⟨by rfl, ?hyk1⟩) hHeld ?_
  case hyk1 => (intro w hSw; (try dsimp only at hSw); go_simp; (try with_reducible rfl))
  try simp only [Act.put, List.setIfInBounds_toArray, List.set_cons_zero, List.set_cons_succ]
  refine wpAnyH_take (i := 2) (oi := { dst := some 17, op := Op.indexAddr 46 (Operand.global 0) (Operand.tmp 16), type := 0, pos := "access.go:40", after := #[{ on := 1, ground := Ground.data }], guard := none }) (v := ?vk2) rfl (by kernel_rfl) (by kernel_rfl) (by kernel_rfl) (fun _ _ _ h => h) (Or.inl ⟨by rfl, ?hyk2⟩) hHeld ?_
  case hyk2 => (intro w hSw; (try dsimp only at hSw); go_simp; (try with_reducible rfl))
  try simp only [Act.put, List.setIfInBounds_toArray, List.set_cons_zero, List.set_cons_succ]
  refine wpAnyH_take (i := 3) (oi := { dst := some 18, op := Op.load 9 (Operand.tmp 17), type := 9, pos := "access.go:40", after := #[{ on := 2, ground := Ground.data }], guard := none }) (v := ?vk3) rfl (by kernel_rfl) (by kernel_rfl) (by kernel_rfl) (fun _ _ _ h => h) (Or.inl ⟨by rfl, ?hyk3⟩) hHeld ?_
  case hyk3 => (intro w hSw; (try dsimp only at hSw); go_simp; (try with_reducible rfl))
  try simp only [Act.put, List.setIfInBounds_toArray, List.set_cons_zero, List.set_cons_succ]
  refine wpAnyH_take (i := 4) (oi := { dst := some 19, op := Op.load 27 (Operand.tmp 2), type := 27, pos := "access.go:40", after := #[], guard := none }) (v := ?vk4) rfl (by kernel_rfl) (by kernel_rfl) (by kernel_rfl) (fun _ _ _ h => h) (Or.inl ⟨by rfl, ?hyk4⟩) hHeld ?_
  case hyk4 => (intro w hSw; (try dsimp only at hSw); go_simp; (try with_reducible rfl))
  try simp only [Act.put, List.setIfInBounds_toArray, List.set_cons_zero, List.set_cons_succ]
  refine wpAnyH_take (i := 5) (oi := { dst := some 20, op := Op.fieldAddr 33 (Operand.tmp 3) 1, type := 0, pos := "access.go:40", after := #[], guard := none }) (v := ?vk5) rfl (by kernel_rfl) (by kernel_rfl) (by kernel_rfl) (fun _ _ _ h => h) (Or.inl ⟨by rfl, ?hyk5⟩) hHeld ?_
  case hyk5 => (intro w hSw; (try dsimp only at hSw); go_simp; (try with_reducible rfl))
  try simp only [Act.put, List.setIfInBounds_toArray, List.set_cons_zero, List.set_cons_succ]
  refine wpAnyH_take (i := 6) (oi := { dst := some 21, op := Op.load 3 (Operand.tmp 20), type := 3, pos := "access.go:40", after := #[{ on := 5, ground := Ground.data }], guard := none }) (v := ?vk6) rfl (by kernel_rfl) (by kernel_rfl) (by kernel_rfl) (fun _ _ _ h => h) (Or.inl ⟨by rfl, ?hyk6⟩) hHeld ?_
  case hyk6 => (intro w hSw; (try dsimp only at hSw); go_simp; (try with_reducible rfl))
  try simp only [Act.put, List.setIfInBounds_toArray, List.set_cons_zero, List.set_cons_succ]
  refine wpAnyH_ready (rs := [7]) (by kernel_rfl) (by simp) ?_
  refine AllReadyH.cons (o := { dst := some 22, op := Op.call { callee := Callee.value (Operand.func 16), args := #[Operand.tmp 19, Operand.tmp 21], argTypes := #[27, 3] }, type := 9, pos := "access.go:40", after := #[{ on := 4, ground := Ground.data }, { on := 6, ground := Ground.data }], guard := none }) rfl (fun K hK => ?_) AllReadyH.nil
  go_simp
  refine (HN.out _ (HL.out.below hQ).base).mono ?_
  rintro e v1 ⟨rfl, hV⟩
  have hX1 : BothAt w v1 a b c d 3 p x y o := BothAt.below ⟨hHeld.1, hHeld.2.1, hHeld.2.2.1, hHeld.2.2.2.1, hHeld.2.2.2.2.1, hHeld.2.2.2.2.2.1, hHeld.2.2.2.2.2.2.1, hHeld.2.2.2.2.2.2.2.1, hHeld.2.2.2.2.2.2.2.2.1⟩ hV
  have hQ1 := belowOn (w := w) hQ hV
  have hK1 := (HL.out.below hQ1).kinds 3 (by omega) (by omega)
  rw [HKN.out] at hK1
  clear hV hHeld
  try go_wp2_with fail
  refine hK.out _ _ ?_ (fun hHeld => ?_)
  · exact ⟨hX1.1, hX1.2.1, hX1.2.2.1, hX1.2.2.2.1, hX1.2.2.2.2.1, hX1.2.2.2.2.2.1, hX1.2.2.2.2.2.2.1, hX1.2.2.2.2.2.2.2.1, hX1.2.2.2.2.2.2.2.2, hK1⟩
  clear hK K
  try simp only [Act.put, List.setIfInBounds_toArray, List.set_cons_zero, List.set_cons_succ]
  refine wpAnyH_ready (rs := [8]) (by kernel_rfl) (by simp) ?_
  refine AllReadyH.cons (o := { dst := some 23, op := Op.buildSlice 28 2 #[(0, Operand.tmp 18), (1, Operand.tmp 22)], type := 28, pos := "access.go:40", after := #[{ on := 3, ground := Ground.data }, { on := 7, ground := Ground.data }], guard := none }) rfl (fun K hK => ?_) AllReadyH.nil
  go_simp
  have hX2 : BothAt w (v1.alloc (.cells #[.string ⟨kn.toArray⟩, .string ⟨nm.toArray⟩] 9)) a b c d 3 p x y o := BothAt.below hX1 (below_new _ _)
  have hK2 := (HL.out.below (below_on hQ1 (.cells #[.string ⟨kn.toArray⟩, .string ⟨nm.toArray⟩] 9))).kinds 3 (by omega) (by omega)
  rw [HKN.out] at hK2
  refine hK.out _ _ ?_ (fun hHeld => ?_)
  · exact ⟨hX2.1, hX2.2.1, hX2.2.2.1, hX2.2.2.2.1, hX2.2.2.2.2.1, hX2.2.2.2.2.2.1, hX2.2.2.2.2.2.2.1, hX2.2.2.2.2.2.2.2.1, hX2.2.2.2.2.2.2.2.2, hK2⟩
  clear hK K
  try simp only [Act.put, List.setIfInBounds_toArray, List.set_cons_zero, List.set_cons_succ]
  refine wpAnyH_take (i := 9) (oi := { dst := some 5, op := Op.assign (Operand.tmp 23), type := 28, pos := "access.go:40", after := #[{ on := 8, ground := Ground.data }, { on := 7, ground := Ground.chain }, { on := 0, ground := Ground.phase }, { on := 1, ground := Ground.phase }, { on := 2, ground := Ground.phase }, { on := 3, ground := Ground.phase }, { on := 4, ground := Ground.phase }, { on := 5, ground := Ground.phase }, { on := 6, ground := Ground.phase }, { on := 7, ground := Ground.phase }, { on := 8, ground := Ground.phase }], guard := none }) (v := ?vk9) rfl (by kernel_rfl) (by kernel_rfl) (by kernel_rfl) (fun _ _ _ h => h) (Or.inl ⟨by rfl, ?hyk9⟩) hHeld ?_
  case hyk9 => (intro w hSw; (try dsimp only at hSw); go_simp; (try with_reducible rfl))
  try simp only [Act.put, List.setIfInBounds_toArray, List.set_cons_zero, List.set_cons_succ]
  refine wpAnyH_done (by kernel_rfl) ?_ _
  have hl1 := lt_of_cell hX1.2.2.2.2.1
  have hrow : (v1.alloc (.cells #[.string ⟨kn.toArray⟩, .string ⟨nm.toArray⟩] 9)).ownsRow (w.heap.size + 2) 9 1 (.slice (some ⟨v1.heap.size, 0, none⟩) 2 2) 2 ([kn, nm].map strV) := by
    simpa [strV] using World.ownsRow_lit (base := w.heap.size + 2) (e := 9) (size := 1) v1 #[.string ⟨kn.toArray⟩, .string ⟨nm.toArray⟩] 2 (by omega) (by unfold maxLen; omega) (by simp)
  have hacc : AccAt (v1.alloc (.cells #[.string ⟨kn.toArray⟩, .string ⟨nm.toArray⟩] 9)) (w.heap.size + 1) 3 p x y o := hX2.2.2.2.2
  have hold : Below w.heap.size w (v1.alloc (.cells #[.string ⟨kn.toArray⟩, .string ⟨nm.toArray⟩] 9)) := below_on hQ1 _
  have hsz : (v1.alloc (.cells #[.string ⟨kn.toArray⟩, .string ⟨nm.toArray⟩] 9)).heap.size = v1.heap.size + 1 := by simp
  clear hX1 hX2 hQ1 hK1 hK2 hHeld hQ hK0 HKN HN x0 x1 x2 x3 y0 y1 y2 y3 y4 hl1
  generalize v1.alloc (.cells #[.string ⟨kn.toArray⟩, .string ⟨nm.toArray⟩] 9) = V at *
  generalize v1.heap.size = g0 at *
  have Hrow := Lib.hid hrow; have Hold := Lib.hid hold; have Hacc := Lib.hid hacc
  obtain ⟨y0, y1, y2, y3, y4⟩ := hacc
  clear hrow hold
  go_wp2_with fail
  refine (HSp.out V).mono ?_
  rintro e W3 ⟨rfl, hW3, hP3⟩
  have HP0 : Hid (Parts w W3 (.slice (some ⟨g0, 0, none⟩) 2 2) (V.heap.size + 1) 3 p x y o 2 [kn, nm]) := Lib.hid ⟨rfl, ownsRow_below4 Hrow.out hW3, belowOn Hold.out hW3, Hacc.out.below hW3, hP3, by simp [Value.ownBlock]; omega⟩
  clear hW3 hP3 HSp Hrow Hold Hacc y0 y1 y2 y3 y4
  generalize V.heap.size + 1 = T at *
  clear hsz
  go_wp2_with fail
  go_loopw [5, 32] (fun v vi wr => ∃ i : Nat, vi = .int .i64 i ∧ i ≤ 2 ∧ Hid (Parts w wr v T 3 p x y o (2 + i) (kn :: nm :: (([x, y] : List Nat).take i).map textB))) (fun _ vi _ => 2 - (intOf vi).toNat)
  case atStart => exact ⟨0, rfl, by omega, HP0⟩
  case round =>
    clear HP0
    obtain ⟨i, rfl, hi, HP⟩ := hrel
    by_cases hlt : i < 2
    · have hc : wr.cell? ⟨T, i, none⟩ = some (.int .u64 ((([x, y] : List Nat).getD i 0 : Nat) : Int)) := by
        have hp := HP.out.pair
        match i, hlt with
        | 0, _ => exact hp.1
        | 1, _ => exact hp.2
      have hu : ([x, y] : List Nat).getD i 0 < 18446744073709551616 := by
        match i, hlt with
        | 0, _ => exact hx
        | 1, _ => exact hy
      have HTk : Hid ((([x, y] : List Nat).take (i + 1)).map textB = (([x, y] : List Nat).take i).map textB ++ [textB (([x, y] : List Nat).getD i 0)]) := Lib.hid (by
        match i, hlt with
        | 1, _ => rfl
        | 0, _ => rfl)
      generalize ([x, y] : List Nat).getD i 0 = u at hc hu HTk
      have HX := Lib.hid (text_c u hu wr (HL.out.below HP.out.old).base.pow)
      clear hu
      go_wp2_with fail
      refine HX.out.mono ?_
      rintro e w1 ⟨rfl, hW⟩
      have hPt := HP.out.below hW
      have hO := hPt.row
      have hm1 : w.heap.size + 2 ≤ w1.heap.size := lt_of_cell hPt.acc.1
      have HPt := Lib.hid hPt
      clear hW HX HP hc hPt
      generalize textB u = s at *
      go_wp2_with (at_builtin; refine wpList_append_lies _ (by rfl) _ _ _ (by rfl) (w.heap.size + 2) 9 i9 _ 1 16 Tryd.underlying28 hi9 hz0 hz1 hz2 rfl (by omega) u5 (2 + i) _ (by rfl) (hO.alloc _) ⟨w1.heap.size, 0, none⟩ 1 1 [.string ⟨s.toArray⟩] (by rfl) (by rfl) (World.news_of_block (cs := #[.string ⟨s.toArray⟩]) (t := 9) (fr := (0, 0)) (heap_alloc_new w1 _)) (by simp [Value.oneCell']) (by omega) (by unfold maxLen; omega) (by omega) (by simp; omega) (w1.heap.size + 1) (by simp) ?_; intro gg cap' w2 hown1 hgrow hat hlt2)
      have HN : Hid (Parts w w2 (.slice (some ⟨gg, 0, none⟩) (2 + i + 1) cap') T 3 p x y o (2 + i + 1) (kn :: nm :: (([x, y] : List Nat).take (i + 1)).map textB)) := Lib.hid (by
        have h := HPt.out.add _ hgrow (l' := [s]) hown1 hat rfl
        rw [HTk.out]
        exact h)
      clear hown1 hgrow hat hlt2 hO HPt HTk
      go_roundw
      case rel => exact ⟨i + 1, by go_num, by omega, HN⟩
      case measure => simp [intOf]; omega
    · obtain rfl : i = 2 := by omega
      have HX := Lib.hid (text_c o ho wr (HL.out.below HP.out.old).base.pow)
      obtain ⟨y0, y1, y2, y3, y4⟩ := HP.out.acc
      go_wp2_with fail
      refine HX.out.mono ?_
      rintro e w1 ⟨rfl, hW⟩
      have hPt := HP.out.below hW
      have hO := hPt.row
      have hm1 : w.heap.size + 2 ≤ w1.heap.size := lt_of_cell hPt.acc.1
      have HPt := Lib.hid hPt
      clear hW HX HP hPt y0 y1 y2 y3 y4
      generalize textB o = s at *
      go_wp2_with (at_builtin; refine wpList_append_lies _ (by rfl) _ _ _ (by rfl) (w.heap.size + 2) 9 i9 _ 1 16 Tryd.underlying28 hi9 hz0 hz1 hz2 rfl (by omega) u5 (2 + 2) _ (by rfl) (hO.alloc _) ⟨w1.heap.size, 0, none⟩ 2 2 [.string ⟨#[119, 97, 115]⟩, .string ⟨s.toArray⟩] (by rfl) (by rfl) (World.news_of_block (cs := #[.string ⟨#[119, 97, 115]⟩, .string ⟨s.toArray⟩]) (t := 9) (fr := (0, 0)) (heap_alloc_new w1 _)) (by simp [Value.oneCell']) (by omega) (by unfold maxLen; omega) (by omega) (by simp; omega) (w1.heap.size + 1) (by simp) ?_; intro gg cap' w2 hown1 hgrow hat hlt2)
      have hF := HPt.out.add _ hgrow (l' := [[119, 97, 115], s]) hown1 hat rfl
      have hsh := HSh.out
      rw [HT.out] at hsh
      have HJ := Lib.hid (hF.join hsh (by omega) (by omega) hlt2)
      have HBf := Lib.hid hF.old
      clear hown1 hgrow hat hlt2 hO HPt hF hsh
      go_wp2_with fail
      refine HJ.out.mono ?_
      rintro e w' ⟨rfl, hW⟩
      go_wp2_with fail
      go_ret
      refine ⟨?_, belowOn HBf.out hW⟩
      rw [HT.out]; rfl
set_option maxHeartbeats 6400000 in
theorem Text_4 (a b c d p : Int) (x y o : Nat) (hx : x < 18446744073709551616) (hy : y < 18446744073709551616) (ho : o < 18446744073709551616) (h : RightA a b c d 4 p x y) (w : World) (hL : Laid6 w) :
    Calls Tryd.prog 8 #[.agg #[.int .i64 a, .int .i64 b, .int .i64 c, .int .i64 d], accV 4 p x y o] w fun e w' => e = .returned (.string ⟨(accT b c d 4 p x y o).toArray⟩) ∧ Below w.heap.size w w' := by
  obtain ⟨i9, hi9, hz0, hz1, hz2⟩ := info_parts infoString4
  have hb := below_on (below_new w (.cells #[.int .i64 a, .int .i64 b, .int .i64 c, .int .i64 d] 27)) (.cells #[.int .i64 4, .int .i64 p, .int .u64 x, .int .u64 y, .int .u64 o] 33)
  have hR := Right_c a b c d 4 p x y o _ (hL.base.spans.below hb)
  rw [decide_eq_true h] at hR
  have HR := Lib.hid hR
  have HB := Lib.hid hb
  have HN := Lib.hid (Name_in6 a b c d p h.2.1.1 h.2.1.2)
  have HSh := Lib.hid (accT_short (k := 4) h.2.1.1 h.2.1.2 hx hy ho)
  have HL := Lib.hid hL
  have HBo := Lib.hid (BothAt.new w a b c d 4 p x y o)
  have HT : Hid (accT b c d 4 p x y o = Lib.join (kindT 4 :: nameOf (spotF b c d p) :: ((usedW 4 x y).map textB ++ [[119, 97, 115], textB o])) [32]) := Lib.hid rfl
  have HSp := Lib.hid (split_c 4 p x y o)
  rw [show cntK 4 = 1 by decide, show isK 4 = true by decide] at HSp
  have hu : usedW 4 x y = [x] := rfl
  rw [hu] at HT
  obtain ⟨kn, HKN⟩ : ∃ kn, Hid (kindT ((4 : Nat) : Int) = kn) := ⟨_, Lib.hid rfl⟩
  rw [show kindT 4 = kn from HKN.out] at HT
  generalize accT b c d 4 p x y o = tx at *
  generalize nameOf (spotF b c d p) = nm at *
  clear hR hb h hL hu
  obtain ⟨x0, x1, x2, x3, y0, y1, y2, y3, y4⟩ := HBo.out
  go_enter Tryd.func8, Tryd.ntmps8
  go_wp2_with fail
  refine HR.out.mono ?_
  rintro e W ⟨rfl, hW⟩
  have hBW := HBo.out.below hW
  have hQ : Below w.heap.size w W.drew := (belowOn HB.out hW).drew
  have hK0 := (HL.out.below hQ).kinds 4 (by omega) (by omega)
  rw [HKN.out] at hK0
  clear hW x0 x1 x2 x3 y0 y1 y2 y3 y4 HBo HB HR
  obtain ⟨x0, x1, x2, x3, y0, y1, y2, y3, y4⟩ := hBW
  go_wp2_with fail
  refine wp_region_held_drew (S := (fun w' => w'.cell? ⟨w.heap.size, 0, none⟩ = some (.int .i64 a) ∧ w'.cell? ⟨w.heap.size, 1, none⟩ = some (.int .i64 b) ∧ w'.cell? ⟨w.heap.size, 2, none⟩ = some (.int .i64 c) ∧ w'.cell? ⟨w.heap.size, 3, none⟩ = some (.int .i64 d) ∧ w'.cell? ⟨w.heap.size + 1, 0, none⟩ = some (.int .i64 4) ∧ w'.cell? ⟨w.heap.size + 1, 1, none⟩ = some (.int .i64 p) ∧ w'.cell? ⟨w.heap.size + 1, 2, none⟩ = some (.int .u64 x) ∧ w'.cell? ⟨w.heap.size + 1, 3, none⟩ = some (.int .u64 y) ∧ w'.cell? ⟨w.heap.size + 1, 4, none⟩ = some (.int .u64 o) ∧ w'.cell? ⟨0, 4, none⟩ = some (.string ⟨kn.toArray⟩))) (by kernel_rfl) ?_ (fun hHeld => ?_)
  · exact ⟨x0, x1, x2, x3, y0, y1, y2, y3, y4, hK0⟩
  refine wpAnyH_take (i := 0) (oi := { dst := some 15, op := Op.fieldAddr 33 (Operand.tmp 3) 0, type := 0, pos := "access.go:40", after := #[], guard := none }) (v := ?vk0) rfl (by kernel_rfl) (by kernel_rfl) (by kernel_rfl) (fun _ _ _ h => h) (Or.inl ⟨by rfl, ?hyk0⟩) hHeld ?_
  case hyk0 => (intro w hSw; (try dsimp only at hSw); go_simp; (try with_reducible rfl))
  try simp only [Act.put, List.setIfInBounds_toArray, List.set_cons_zero, List.set_cons_succ]
  refine wpAnyH_take (i := 1) (oi := { dst := some 16, op := Op.load 3 (Operand.tmp 15), type := 3, pos := "access.go:40", after := #[{ on := 0, ground := Ground.data }], guard := none }) (v := ?vk1) rfl (by kernel_rfl) (by kernel_rfl) (by kernel_rfl) (fun _ _ _ h => h) (Or.inl ⟨by rfl, ?hyk1⟩) hHeld ?_
  case hyk1 => (intro w hSw; (try dsimp only at hSw); go_simp; (try with_reducible rfl))
  try simp only [Act.put, List.setIfInBounds_toArray, List.set_cons_zero, List.set_cons_succ]
  refine wpAnyH_take (i := 2) (oi := { dst := some 17, op := Op.indexAddr 46 (Operand.global 0) (Operand.tmp 16), type := 0, pos := "access.go:40", after := #[{ on := 1, ground := Ground.data }], guard := none }) (v := ?vk2) rfl (by kernel_rfl) (by kernel_rfl) (by kernel_rfl) (fun _ _ _ h => h) (Or.inl ⟨by rfl, ?hyk2⟩) hHeld ?_
  case hyk2 => (intro w hSw; (try dsimp only at hSw); go_simp; (try with_reducible rfl))
  try simp only [Act.put, List.setIfInBounds_toArray, List.set_cons_zero, List.set_cons_succ]
  refine wpAnyH_take (i := 3) (oi := { dst := some 18, op := Op.load 9 (Operand.tmp 17), type := 9, pos := "access.go:40", after := #[{ on := 2, ground := Ground.data }], guard := none }) (v := ?vk3) rfl (by kernel_rfl) (by kernel_rfl) (by kernel_rfl) (fun _ _ _ h => h) (Or.inl ⟨by rfl, ?hyk3⟩) hHeld ?_
  case hyk3 => (intro w hSw; (try dsimp only at hSw); go_simp; (try with_reducible rfl))
  try simp only [Act.put, List.setIfInBounds_toArray, List.set_cons_zero, List.set_cons_succ]
  refine wpAnyH_take (i := 4) (oi := { dst := some 19, op := Op.load 27 (Operand.tmp 2), type := 27, pos := "access.go:40", after := #[], guard := none }) (v := ?vk4) rfl (by kernel_rfl) (by kernel_rfl) (by kernel_rfl) (fun _ _ _ h => h) (Or.inl ⟨by rfl, ?hyk4⟩) hHeld ?_
  case hyk4 => (intro w hSw; (try dsimp only at hSw); go_simp; (try with_reducible rfl))
  try simp only [Act.put, List.setIfInBounds_toArray, List.set_cons_zero, List.set_cons_succ]
  refine wpAnyH_take (i := 5) (oi := { dst := some 20, op := Op.fieldAddr 33 (Operand.tmp 3) 1, type := 0, pos := "access.go:40", after := #[], guard := none }) (v := ?vk5) rfl (by kernel_rfl) (by kernel_rfl) (by kernel_rfl) (fun _ _ _ h => h) (Or.inl ⟨by rfl, ?hyk5⟩) hHeld ?_
  case hyk5 => (intro w hSw; (try dsimp only at hSw); go_simp; (try with_reducible rfl))
  try simp only [Act.put, List.setIfInBounds_toArray, List.set_cons_zero, List.set_cons_succ]
  refine wpAnyH_take (i := 6) (oi := { dst := some 21, op := Op.load 3 (Operand.tmp 20), type := 3, pos := "access.go:40", after := #[{ on := 5, ground := Ground.data }], guard := none }) (v := ?vk6) rfl (by kernel_rfl) (by kernel_rfl) (by kernel_rfl) (fun _ _ _ h => h) (Or.inl ⟨by rfl, ?hyk6⟩) hHeld ?_
  case hyk6 => (intro w hSw; (try dsimp only at hSw); go_simp; (try with_reducible rfl))
  try simp only [Act.put, List.setIfInBounds_toArray, List.set_cons_zero, List.set_cons_succ]
  refine wpAnyH_ready (rs := [7]) (by kernel_rfl) (by simp) ?_
  refine AllReadyH.cons (o := { dst := some 22, op := Op.call { callee := Callee.value (Operand.func 16), args := #[Operand.tmp 19, Operand.tmp 21], argTypes := #[27, 3] }, type := 9, pos := "access.go:40", after := #[{ on := 4, ground := Ground.data }, { on := 6, ground := Ground.data }], guard := none }) rfl (fun K hK => ?_) AllReadyH.nil
  go_simp
  refine (HN.out _ (HL.out.below hQ).base).mono ?_
  rintro e v1 ⟨rfl, hV⟩
  have hX1 : BothAt w v1 a b c d 4 p x y o := BothAt.below ⟨hHeld.1, hHeld.2.1, hHeld.2.2.1, hHeld.2.2.2.1, hHeld.2.2.2.2.1, hHeld.2.2.2.2.2.1, hHeld.2.2.2.2.2.2.1, hHeld.2.2.2.2.2.2.2.1, hHeld.2.2.2.2.2.2.2.2.1⟩ hV
  have hQ1 := belowOn (w := w) hQ hV
  have hK1 := (HL.out.below hQ1).kinds 4 (by omega) (by omega)
  rw [HKN.out] at hK1
  clear hV hHeld
  try go_wp2_with fail
  refine hK.out _ _ ?_ (fun hHeld => ?_)
  · exact ⟨hX1.1, hX1.2.1, hX1.2.2.1, hX1.2.2.2.1, hX1.2.2.2.2.1, hX1.2.2.2.2.2.1, hX1.2.2.2.2.2.2.1, hX1.2.2.2.2.2.2.2.1, hX1.2.2.2.2.2.2.2.2, hK1⟩
  clear hK K
  try simp only [Act.put, List.setIfInBounds_toArray, List.set_cons_zero, List.set_cons_succ]
  refine wpAnyH_ready (rs := [8]) (by kernel_rfl) (by simp) ?_
  refine AllReadyH.cons (o := { dst := some 23, op := Op.buildSlice 28 2 #[(0, Operand.tmp 18), (1, Operand.tmp 22)], type := 28, pos := "access.go:40", after := #[{ on := 3, ground := Ground.data }, { on := 7, ground := Ground.data }], guard := none }) rfl (fun K hK => ?_) AllReadyH.nil
  go_simp
  have hX2 : BothAt w (v1.alloc (.cells #[.string ⟨kn.toArray⟩, .string ⟨nm.toArray⟩] 9)) a b c d 4 p x y o := BothAt.below hX1 (below_new _ _)
  have hK2 := (HL.out.below (below_on hQ1 (.cells #[.string ⟨kn.toArray⟩, .string ⟨nm.toArray⟩] 9))).kinds 4 (by omega) (by omega)
  rw [HKN.out] at hK2
  refine hK.out _ _ ?_ (fun hHeld => ?_)
  · exact ⟨hX2.1, hX2.2.1, hX2.2.2.1, hX2.2.2.2.1, hX2.2.2.2.2.1, hX2.2.2.2.2.2.1, hX2.2.2.2.2.2.2.1, hX2.2.2.2.2.2.2.2.1, hX2.2.2.2.2.2.2.2.2, hK2⟩
  clear hK K
  try simp only [Act.put, List.setIfInBounds_toArray, List.set_cons_zero, List.set_cons_succ]
  refine wpAnyH_take (i := 9) (oi := { dst := some 5, op := Op.assign (Operand.tmp 23), type := 28, pos := "access.go:40", after := #[{ on := 8, ground := Ground.data }, { on := 7, ground := Ground.chain }, { on := 0, ground := Ground.phase }, { on := 1, ground := Ground.phase }, { on := 2, ground := Ground.phase }, { on := 3, ground := Ground.phase }, { on := 4, ground := Ground.phase }, { on := 5, ground := Ground.phase }, { on := 6, ground := Ground.phase }, { on := 7, ground := Ground.phase }, { on := 8, ground := Ground.phase }], guard := none }) (v := ?vk9) rfl (by kernel_rfl) (by kernel_rfl) (by kernel_rfl) (fun _ _ _ h => h) (Or.inl ⟨by rfl, ?hyk9⟩) hHeld ?_
  case hyk9 => (intro w hSw; (try dsimp only at hSw); go_simp; (try with_reducible rfl))
  try simp only [Act.put, List.setIfInBounds_toArray, List.set_cons_zero, List.set_cons_succ]
  refine wpAnyH_done (by kernel_rfl) ?_ _
  have hl1 := lt_of_cell hX1.2.2.2.2.1
  have hrow : (v1.alloc (.cells #[.string ⟨kn.toArray⟩, .string ⟨nm.toArray⟩] 9)).ownsRow (w.heap.size + 2) 9 1 (.slice (some ⟨v1.heap.size, 0, none⟩) 2 2) 2 ([kn, nm].map strV) := by
    simpa [strV] using World.ownsRow_lit (base := w.heap.size + 2) (e := 9) (size := 1) v1 #[.string ⟨kn.toArray⟩, .string ⟨nm.toArray⟩] 2 (by omega) (by unfold maxLen; omega) (by simp)
  have hacc : AccAt (v1.alloc (.cells #[.string ⟨kn.toArray⟩, .string ⟨nm.toArray⟩] 9)) (w.heap.size + 1) 4 p x y o := hX2.2.2.2.2
  have hold : Below w.heap.size w (v1.alloc (.cells #[.string ⟨kn.toArray⟩, .string ⟨nm.toArray⟩] 9)) := below_on hQ1 _
  have hsz : (v1.alloc (.cells #[.string ⟨kn.toArray⟩, .string ⟨nm.toArray⟩] 9)).heap.size = v1.heap.size + 1 := by simp
  clear hX1 hX2 hQ1 hK1 hK2 hHeld hQ hK0 HKN HN x0 x1 x2 x3 y0 y1 y2 y3 y4 hl1
  generalize v1.alloc (.cells #[.string ⟨kn.toArray⟩, .string ⟨nm.toArray⟩] 9) = V at *
  generalize v1.heap.size = g0 at *
  have Hrow := Lib.hid hrow; have Hold := Lib.hid hold; have Hacc := Lib.hid hacc
  obtain ⟨y0, y1, y2, y3, y4⟩ := hacc
  clear hrow hold
  go_wp2_with fail
  refine (HSp.out V).mono ?_
  rintro e W3 ⟨rfl, hW3, hP3⟩
  have HP0 : Hid (Parts w W3 (.slice (some ⟨g0, 0, none⟩) 2 2) (V.heap.size + 1) 4 p x y o 2 [kn, nm]) := Lib.hid ⟨rfl, ownsRow_below4 Hrow.out hW3, belowOn Hold.out hW3, Hacc.out.below hW3, hP3, by simp [Value.ownBlock]; omega⟩
  clear hW3 hP3 HSp Hrow Hold Hacc y0 y1 y2 y3 y4
  generalize V.heap.size + 1 = T at *
  clear hsz
  go_wp2_with fail
  go_loopw [5, 32] (fun v vi wr => ∃ i : Nat, vi = .int .i64 i ∧ i ≤ 1 ∧ Hid (Parts w wr v T 4 p x y o (2 + i) (kn :: nm :: (([x] : List Nat).take i).map textB))) (fun _ vi _ => 1 - (intOf vi).toNat)
  case atStart => exact ⟨0, rfl, by omega, HP0⟩
  case round =>
    clear HP0
    obtain ⟨i, rfl, hi, HP⟩ := hrel
    by_cases hlt : i < 1
    · have hc : wr.cell? ⟨T, i, none⟩ = some (.int .u64 ((([x] : List Nat).getD i 0 : Nat) : Int)) := by
        have hp := HP.out.pair
        match i, hlt with
        | 0, _ => exact hp.1
      have hu : ([x] : List Nat).getD i 0 < 18446744073709551616 := by
        match i, hlt with
        | 0, _ => exact hx
      have HTk : Hid ((([x] : List Nat).take (i + 1)).map textB = (([x] : List Nat).take i).map textB ++ [textB (([x] : List Nat).getD i 0)]) := Lib.hid (by
        match i, hlt with
        | 0, _ => rfl)
      generalize ([x] : List Nat).getD i 0 = u at hc hu HTk
      have HX := Lib.hid (text_c u hu wr (HL.out.below HP.out.old).base.pow)
      clear hu
      go_wp2_with fail
      refine HX.out.mono ?_
      rintro e w1 ⟨rfl, hW⟩
      have hPt := HP.out.below hW
      have hO := hPt.row
      have hm1 : w.heap.size + 2 ≤ w1.heap.size := lt_of_cell hPt.acc.1
      have HPt := Lib.hid hPt
      clear hW HX HP hc hPt
      generalize textB u = s at *
      go_wp2_with (at_builtin; refine wpList_append_lies _ (by rfl) _ _ _ (by rfl) (w.heap.size + 2) 9 i9 _ 1 16 Tryd.underlying28 hi9 hz0 hz1 hz2 rfl (by omega) u5 (2 + i) _ (by rfl) (hO.alloc _) ⟨w1.heap.size, 0, none⟩ 1 1 [.string ⟨s.toArray⟩] (by rfl) (by rfl) (World.news_of_block (cs := #[.string ⟨s.toArray⟩]) (t := 9) (fr := (0, 0)) (heap_alloc_new w1 _)) (by simp [Value.oneCell']) (by omega) (by unfold maxLen; omega) (by omega) (by simp; omega) (w1.heap.size + 1) (by simp) ?_; intro gg cap' w2 hown1 hgrow hat hlt2)
      have HN : Hid (Parts w w2 (.slice (some ⟨gg, 0, none⟩) (2 + i + 1) cap') T 4 p x y o (2 + i + 1) (kn :: nm :: (([x] : List Nat).take (i + 1)).map textB)) := Lib.hid (by
        have h := HPt.out.add _ hgrow (l' := [s]) hown1 hat rfl
        rw [HTk.out]
        exact h)
      clear hown1 hgrow hat hlt2 hO HPt HTk
      go_roundw
      case rel => exact ⟨i + 1, by go_num, by omega, HN⟩
      case measure => simp [intOf]; omega
    · obtain rfl : i = 1 := by omega
      have HX := Lib.hid (text_c o ho wr (HL.out.below HP.out.old).base.pow)
      obtain ⟨y0, y1, y2, y3, y4⟩ := HP.out.acc
      go_wp2_with fail
      refine HX.out.mono ?_
      rintro e w1 ⟨rfl, hW⟩
      have hPt := HP.out.below hW
      have hO := hPt.row
      have hm1 : w.heap.size + 2 ≤ w1.heap.size := lt_of_cell hPt.acc.1
      have HPt := Lib.hid hPt
      clear hW HX HP hPt y0 y1 y2 y3 y4
      generalize textB o = s at *
      go_wp2_with (at_builtin; refine wpList_append_lies _ (by rfl) _ _ _ (by rfl) (w.heap.size + 2) 9 i9 _ 1 16 Tryd.underlying28 hi9 hz0 hz1 hz2 rfl (by omega) u5 (2 + 1) _ (by rfl) (hO.alloc _) ⟨w1.heap.size, 0, none⟩ 2 2 [.string ⟨#[119, 97, 115]⟩, .string ⟨s.toArray⟩] (by rfl) (by rfl) (World.news_of_block (cs := #[.string ⟨#[119, 97, 115]⟩, .string ⟨s.toArray⟩]) (t := 9) (fr := (0, 0)) (heap_alloc_new w1 _)) (by simp [Value.oneCell']) (by omega) (by unfold maxLen; omega) (by omega) (by simp; omega) (w1.heap.size + 1) (by simp) ?_; intro gg cap' w2 hown1 hgrow hat hlt2)
      have hF := HPt.out.add _ hgrow (l' := [[119, 97, 115], s]) hown1 hat rfl
      have hsh := HSh.out
      rw [HT.out] at hsh
      have HJ := Lib.hid (hF.join hsh (by omega) (by omega) hlt2)
      have HBf := Lib.hid hF.old
      clear hown1 hgrow hat hlt2 hO HPt hF hsh
      go_wp2_with fail
      refine HJ.out.mono ?_
      rintro e w' ⟨rfl, hW⟩
      go_wp2_with fail
      go_ret
      refine ⟨?_, belowOn HBf.out hW⟩
      rw [HT.out]; rfl
theorem Text_yes (a b c d k p : Int) (x y o : Nat) (hx : x < 18446744073709551616) (hy : y < 18446744073709551616) (ho : o < 18446744073709551616) (h : RightA a b c d k p x y) (w : World) (hL : Laid6 w) :
    Calls Tryd.prog 8 #[.agg #[.int .i64 a, .int .i64 b, .int .i64 c, .int .i64 d], accV k p x y o] w fun e w' => e = .returned (.string ⟨(accT b c d k p x y o).toArray⟩) ∧ Below w.heap.size w w' := by
  have hk := h.1
  obtain rfl | rfl | rfl | rfl : k = 1 ∨ k = 2 ∨ k = 3 ∨ k = 4 := by omega
  · exact Text_1 a b c d p x y o hx hy ho h w hL
  · exact Text_2 a b c d p x y o hx hy ho h w hL
  · exact Text_3 a b c d p x y o hx hy ho h w hL
  · exact Text_4 a b c d p x y o hx hy ho h w hL
theorem Text_c (a b c d k p : Int) (x y o : Nat) (hx : x < 18446744073709551616) (hy : y < 18446744073709551616) (ho : o < 18446744073709551616) (w : World) (hL : Laid6 w) :
    Calls Tryd.prog 8 #[.agg #[.int .i64 a, .int .i64 b, .int .i64 c, .int .i64 d], accV k p x y o] w fun e w' => e = .returned (.string ⟨(textF a b c d k p x y o).toArray⟩) ∧ Below w.heap.size w w' := by
  unfold textF
  by_cases h : RightA a b c d k p x y
  · rw [if_pos h]; exact Text_yes a b c d k p x y o hx hy ho h w hL
  · rw [if_neg h]; exact Text_no a b c d k p x y o h w hL
end Go.Proofs.YtdhejdehlomppaaDoor
