/- The law PlaceApart answers true for every configuration, in whatever memory in which the listed variables read as their texts lay them. -/
import Derived.Test.YtcgnfloinmmaoaaDoorPlaceNames
import Derived.Test.YtcgnfloinmmaoaaDoorPlacePlain
import Derived.Laws.EntriesVeiled
namespace Go.Proofs.YtcgnfloinmmaoaaDoor
open Go Go.RowKit
set_option maxRecDepth 100000
attribute [local go_sem ↓] Go.wp_at_zero Go.wp_at_succ

/-- How often each place was marked: the first x of in, y of the globals, z of the registers, u of the cells' places. -/
def seenF (b c d x y z u : Int) (j : Nat) : Int :=
  if (5 ≤ (j : Int) ∧ (j : Int) < 5 + x) ∨ (5 + b ≤ (j : Int) ∧ (j : Int) < 5 + b + y) ∨ (5 + b + d ≤ (j : Int) ∧ (j : Int) < 5 + b + d + z) ∨ (5 + b + d + b * c ≤ (j : Int) ∧ (j : Int) < 5 + b + d + b * c + u) then 1 else 0
theorem seen_none (b c d : Int) (j : Nat) : seenF b c d 0 0 0 0 j = 0 := by unfold seenF; rw [if_neg (by omega)]
theorem seen_in {b c d x z : Int} {p : Nat} (hp : (p : Int) = 5 + x) (hd : 0 ≤ d) (hbc : 0 ≤ b * c) (hx : 0 ≤ x) (hxb : x < b) : seenF b c d x 0 z 0 p = 0 ∧ ∀ j, (if j = p then 1 else seenF b c d x 0 z 0 j) = seenF b c d (x + 1) 0 z 0 j := by
  unfold seenF
  refine ⟨by rw [if_neg (by omega)], fun j => ?_⟩
  by_cases h : j = p
  · rw [if_pos h, if_pos (by omega)]
  · rw [if_neg h]; congr 1; exact propext (by omega)
theorem seen_reg {b c d x z : Int} {p : Nat} (hp : (p : Int) = 5 + b + d + z) (hd : 0 ≤ d) (hb : 0 ≤ b) (hxb : x ≤ b) (hz : 0 ≤ z) (hzb : z < b * c) : seenF b c d x 0 z 0 p = 0 ∧ ∀ j, (if j = p then 1 else seenF b c d x 0 z 0 j) = seenF b c d x 0 (z + 1) 0 j := by
  unfold seenF
  refine ⟨by rw [if_neg (by omega)], fun j => ?_⟩
  by_cases h : j = p
  · rw [if_pos h, if_pos (by omega)]
  · rw [if_neg h]; congr 1; exact propext (by omega)
theorem seen_glob {b c d y z : Int} {p : Nat} (hp : (p : Int) = 5 + b + y) (hb : 0 ≤ b) (hy : 0 ≤ y) (hyd : y < d) (hbc : 0 ≤ b * c) : seenF b c d b y z 0 p = 0 ∧ ∀ j, (if j = p then 1 else seenF b c d b y z 0 j) = seenF b c d b (y + 1) z 0 j := by
  unfold seenF
  refine ⟨by rw [if_neg (by omega)], fun j => ?_⟩
  by_cases h : j = p
  · rw [if_pos h, if_pos (by omega)]
  · rw [if_neg h]; congr 1; exact propext (by omega)
theorem seen_cell {b c d u : Int} {p : Nat} (hp : (p : Int) = 5 + b + d + b * c + u) (hb : 0 ≤ b) (hd : 0 ≤ d) (hbc : 0 ≤ b * c) (hu : 0 ≤ u) : seenF b c d b d (b * c) u p = 0 ∧ ∀ j, (if j = p then 1 else seenF b c d b d (b * c) u j) = seenF b c d b d (b * c) (u + 1) j := by
  unfold seenF
  refine ⟨by rw [if_neg (by omega)], fun j => ?_⟩
  by_cases h : j = p
  · rw [if_pos h, if_pos (by omega)]
  · rw [if_neg h]; congr 1; exact propext (by omega)
theorem seen_all {a b c d : Int} {j : Nat} (h5 : 5 ≤ j) (_ : 0 ≤ b) (_ : 0 ≤ d) (_ : 0 ≤ b * c) (hn : (j : Int) < 5 + b + d + b * c + 3 * a) : seenF b c d b d (b * c) (3 * a) j = 1 := by
  unfold seenF; rw [if_pos (by omega)]
theorem seen_five (b c d x y z u : Int) (j : Nat) (h5 : j < 5) (_ : 0 ≤ b) (_ : 0 ≤ d) (_ : 0 ≤ b * c) : seenF b c d x y z u j = 0 := by
  unfold seenF; rw [if_neg (by omega)]
/-- What the law keeps: the two configurations, the number of places, the row of marks, and all that was there. -/
structure ABox (w wr : World) (M Bn Bs g n : Nat) (a b c d : Int) (f : Nat → Int) : Prop where
  old : Below w.heap.size w wr
  box : BoxAt wr w.heap.size a b c d
  map : BoxAt wr M a b c d
  hn : wr.cell? ⟨Bn, 0, none⟩ = some (.int .i64 n)
  hs : wr.cell? ⟨Bs, 0, none⟩ = some (.slice (some ⟨g, 0, none⟩) n n)
  row : wr.rowIs g 3 n (fun j => .int .i64 (f j))
  apart : w.heap.size < g ∧ g ≠ M ∧ g ≠ Bn ∧ g ≠ Bs
section
variable {w wr wq : World} {M Bn Bs g n : Nat} {a b c d : Int} {f f' : Nat → Int}
theorem ABox.below (h : ABox w wr M Bn Bs g n a b c d f) (hb : Below wr.heap.size wr wq) : ABox w wq M Bn Bs g n a b c d f :=
  ⟨belowOn h.old hb, h.box.below hb, h.map.below hb, (hb.cell (p := ⟨Bn, 0, none⟩) (lt_of_cell h.hn)).trans h.hn, (hb.cell (p := ⟨Bs, 0, none⟩) (lt_of_cell h.hs)).trans h.hs, rowIs_below h.row hb, h.apart⟩
theorem ABox.as (h : ABox w wr M Bn Bs g n a b c d f) (e : ∀ j, f j = f' j) : ABox w wr M Bn Bs g n a b c d f' := ⟨h.old, h.box, h.map, h.hn, h.hs, h.row.congr (fun j _ => by rw [e j]), h.apart⟩
theorem ABox.set (h : ABox w wr M Bn Bs g n a b c d f) (p : Nat) (x : Int) : ABox w (wr.setCell ⟨g, p, none⟩ (.int .i64 x)) M Bn Bs g n a b c d (fun j => if j = p then x else f j) := by
  obtain ⟨h1, h2, h3, h4⟩ := h.apart
  have k : ∀ B, g ≠ B → ∀ j, (wr.setCell ⟨g, p, none⟩ (.int .i64 x)).cell? ⟨B, j, none⟩ = wr.cell? ⟨B, j, none⟩ := fun B hB j => World.cell?_setCell_other wr ⟨g, p, none⟩ _ _ (fun e => hB (by injection e))
  refine ⟨h.old.setCell (by simp; omega) _, h.box.setOther (by simp; omega) _, h.map.setOther (by simpa using h2) _, (k _ h3 _).trans h.hn, (k _ h4 _).trans h.hs, (h.row.set p _).congr (fun j _ => ?_), h.apart⟩
  by_cases hj : j = p
  · rw [if_pos hj, if_pos hj]
  · rw [if_neg hj, if_neg hj]
theorem ABox.two (h : ABox w wr M Bn Bs g n a b c d f) : Two wr w.heap.size M a b c d a b c d := ⟨h.box.1, h.box.2.1, h.box.2.2.1, h.box.2.2.2, h.map.1, h.map.2.1, h.map.2.2.1, h.map.2.2.2⟩
end
theorem infoInt : (Tryd.prog.info? 3).map (fun i => (i.zero, i.size, i.bytes)) = some (some (.int .i64 0), 1, 8) := by kernel_rfl
theorem make_ints (n : Nat) (hn : n ≤ 20000) (w : World) : (Instr.makeSlice 44 (.int .i64 (n : Int)) (.int .i64 (n : Int))).run Tryd.prog w = .ok (.slice (some ⟨w.heap.size, 0, none⟩) n n) (w.alloc (.cells (madeCells #[.int .i64 0] n) 3)) :=
  run_make_row' 44 3 (.int .i64 0) 8 Tryd.underlying44 infoInt rfl .i64 .i64 n (by omega) (by omega) w
theorem ABox.start {w V : World} {M : Nat} {a b c d : Int} (n : Nat) (h1 : Below w.heap.size w V) (h2 : BoxAt V w.heap.size a b c d) (h3 : BoxAt V M a b c d) :
    ABox w (((V.alloc (.cells #[.int .i64 n] 3)).alloc (.cells (madeCells #[.int .i64 0] n) 3)).alloc (.cells #[.slice (some ⟨V.heap.size + 1, 0, none⟩) n n] 44)) M V.heap.size (V.heap.size + 2) (V.heap.size + 1) n a b c d (seenF b c d 0 0 0 0) := by
  have s1 : (V.alloc (.cells #[.int .i64 n] 3)).heap.size = V.heap.size + 1 := by simp
  have s2 : ((V.alloc (.cells #[.int .i64 n] 3)).alloc (.cells (madeCells #[.int .i64 0] n) 3)).heap.size = V.heap.size + 2 := by simp
  have b1 : Below V.heap.size V (((V.alloc (.cells #[.int .i64 n] 3)).alloc (.cells (madeCells #[.int .i64 0] n) 3)).alloc (.cells #[.slice (some ⟨V.heap.size + 1, 0, none⟩) n n] 44)) := below_on (below_on (below_new _ _) _) _
  have hm := lt_of_cell h3.1
  have hw := lt_of_cell h2.1
  refine ⟨belowOn h1 b1, h2.below b1, h3.below b1, ?_, ?_, ?_, ⟨by omega, by omega, by omega, by omega⟩⟩
  · have hc : (V.alloc (.cells #[.int .i64 n] 3)).cell? ⟨V.heap.size, 0, none⟩ = some (.int .i64 n) := by rw [World.cell?_alloc_new]; rfl
    exact ((below_on (below_new (V.alloc (.cells #[.int .i64 n] 3)) _) _).cell (p := ⟨V.heap.size, 0, none⟩) (by rw [s1]; simp)).trans hc
  · rw [← s2, World.cell?_alloc_new]; rfl
  · have hr := World.rowIs_made (V.alloc (.cells #[.int .i64 n] 3)) (.int .i64 0) n 3
    rw [s1] at hr
    exact (hr.alloc _).congr (fun j _ => by rw [seen_none])
theorem cellSeen {w wr : World} {M Bn Bs g n : Nat} {a b c d : Int} {f : Nat → Int} {x : Int} (h : ABox w wr M Bn Bs g n a b c d f) (k : Nat) (hk : k < n) (e : f k = x) : wr.cell? ⟨g, k, none⟩ = some (.int .i64 x) := by
  have := h.row.cell hk; rwa [e] at this
theorem mark_c {w wr : World} {M Bn Bs g n : Nat} {a b c d : Int} {f : Nat → Int} (h : ABox w wr M Bn Bs g n a b c d f) (p : Nat) (h5 : 5 ≤ p) (hp : p < n) (_ : n ≤ 20000) (h0 : f p = 0) :
    Calls Tryd.prog 26 #[.int .i64 p, .pointer (some ⟨Bn, 0, none⟩), .pointer (some ⟨Bs, 0, none⟩)] wr fun e w' => e = .returned (.bool true) ∧ ABox w w' M Bn Bs g n a b c d (fun j => if j = p then 1 else f j) := by
  have c1 := h.hn; have c2 := h.hs
  have c3 := h.row.cell hp
  have c4 := h.row.frozen p
  rw [h0] at c3
  have HN := Lib.hid (h.set p 1)
  have hpn : (p : Int) < (n : Int) := by omega
  clear h h0
  go_enter Tryd.func26, Tryd.ntmps26
  go_wp2_with fail
  go_ret
  exact ⟨rfl, HN.out⟩
theorem placeApart_wrong (a b c d : Int) (hr : ¬ Right a b c d) (w : World) (hL : Laid4 w) :
    Calls Tryd.prog 5 #[.agg #[.int .i64 a, .int .i64 b, .int .i64 c, .int .i64 d]] w fun e w' => e = .returned (.bool true) ∧ Below w.heap.size w w' := by
  have hb := below_new w (.cells #[.int .i64 a, .int .i64 b, .int .i64 c, .int .i64 d] 23)
  have HX0 := Lib.hid (BoxAt.new w a b c d 23)
  have HA := Lib.hid (awakeP_c _ (hL.below hb).spans)
  have HN := Lib.hid (New_wrong a b c d hr)
  have HL := Lib.hid hL
  have HB0 := Lib.hid hb
  clear hL hb
  go_enter Tryd.func5, Tryd.ntmps5
  go_wp2_with fail
  refine HA.out.mono ?_
  rintro e W1 ⟨rfl, hW⟩
  have HB1 := Lib.hid (belowOn HB0.out hW)
  have HX1 := Lib.hid (HX0.out.below hW)
  obtain ⟨x0, x1, x2, x3⟩ := HX1.out
  clear HA HB0 HX0 hW
  go_wp2_with fail
  refine (HN.out _ (HL.out.below HB1.out).spans).mono ?_
  rintro e W2 ⟨rfl, hW⟩
  have hB2 := belowOn HB1.out hW
  have hX2 := HX1.out.below hW
  have HB3 := Lib.hid (below_on hB2 (.cells #[.int .i64 0, .int .i64 0, .int .i64 0, .int .i64 0] 26))
  have HX3 := Lib.hid (hX2.below (below_new W2 (.cells #[.int .i64 0, .int .i64 0, .int .i64 0, .int .i64 0] 26)))
  have HM3 := Lib.hid (BoxAt.new W2 0 0 0 0 26)
  clear x0 x1 x2 x3
  obtain ⟨x0, x1, x2, x3⟩ := HX3.out
  obtain ⟨m0, m1, m2, m3⟩ := HM3.out
  clear hW hB2 hX2 HX1 HB1 HN
  clear hr
  go_wp2_with fail
  go_ret
  exact ⟨rfl, HB3.out⟩
theorem placeApart_big (a b c d : Int) (hr : Right a b c d) (hbig : 30 < a) (w : World) (hL : Laid4 w) :
    Calls Tryd.prog 5 #[.agg #[.int .i64 a, .int .i64 b, .int .i64 c, .int .i64 d]] w fun e w' => e = .returned (.bool true) ∧ Below w.heap.size w w' := by
  have hb := below_new w (.cells #[.int .i64 a, .int .i64 b, .int .i64 c, .int .i64 d] 23)
  have HX0 := Lib.hid (BoxAt.new w a b c d 23)
  have HA := Lib.hid (awakeP_c _ (hL.below hb).spans)
  have HN := Lib.hid (New_right a b c d hr)
  have HL := Lib.hid hL
  have HB0 := Lib.hid hb
  clear hL hb
  go_enter Tryd.func5, Tryd.ntmps5
  go_wp2_with fail
  refine HA.out.mono ?_
  rintro e W1 ⟨rfl, hW⟩
  have HB1 := Lib.hid (belowOn HB0.out hW)
  have HX1 := Lib.hid (HX0.out.below hW)
  obtain ⟨x0, x1, x2, x3⟩ := HX1.out
  clear HA HB0 HX0 hW
  go_wp2_with fail
  refine (HN.out _ (HL.out.below HB1.out).spans).mono ?_
  rintro e W2 ⟨rfl, hW⟩
  have hB2 := belowOn HB1.out hW
  have hX2 := HX1.out.below hW
  have HB3 := Lib.hid (below_on hB2 (.cells #[.int .i64 a, .int .i64 b, .int .i64 c, .int .i64 d] 26))
  have HX3 := Lib.hid (hX2.below (below_new W2 (.cells #[.int .i64 a, .int .i64 b, .int .i64 c, .int .i64 d] 26)))
  have HM3 := Lib.hid (BoxAt.new W2 a b c d 26)
  clear x0 x1 x2 x3
  obtain ⟨x0, x1, x2, x3⟩ := HX3.out
  obtain ⟨m0, m1, m2, m3⟩ := HM3.out
  clear hW hB2 hX2 HX1 HB1 HN
  clear hr
  go_wp2_with fail
  go_ret
  exact ⟨rfl, HB3.out⟩
set_option maxHeartbeats 25600000 in
theorem placeApart_right (a b c d : Int) (hr : Right a b c d) (hsm : ¬ 30 < a) (w : World) (hL : Laid4 w) :
    Calls Tryd.prog 5 #[.agg #[.int .i64 a, .int .i64 b, .int .i64 c, .int .i64 d]] w fun e w' => e = .returned (.bool true) ∧ Below w.heap.size w w' := by
  have hz := Size_c a b c d
  rw [sizeP_right hr] at hz
  have HR := Lib.hid hr
  have hp1 : 1 ≤ b * c := hr.prod.1
  have hp2 : b * c ≤ 4032 := hr.prod.2
  have hr0 := hr
  unfold Right at hr0
  obtain ⟨n, hn⟩ : ∃ n : Nat, 5 + b + d + b * c + 3 * a = (n : Int) := ⟨(5 + b + d + b * c + 3 * a).toNat, by omega⟩
  rw [hn] at hz
  have HZ := Lib.hid hz
  have hn20 : n ≤ 20000 := by omega
  have HNn := Lib.hid hn
  have hmk := make_ints n hn20
  have hmf : ∀ (fn : Fn) (first cap : Array Value) (w : World), (Instr.makeFunc fn first cap).run Tryd.prog w = .ok (.func fn first cap) w := fun _ _ _ _ => rfl
  clear hz hn hr0
  have hb := below_new w (.cells #[.int .i64 a, .int .i64 b, .int .i64 c, .int .i64 d] 23)
  have HX0 := Lib.hid (BoxAt.new w a b c d 23)
  have HA := Lib.hid (awakeP_c _ (hL.below hb).spans)
  have HN := Lib.hid (New_right a b c d hr)
  have HL := Lib.hid hL
  have HB0 := Lib.hid hb
  clear hL hb
  go_enter Tryd.func5, Tryd.ntmps5
  go_wp2_with fail
  refine HA.out.mono ?_
  rintro e W1 ⟨rfl, hW⟩
  have HB1 := Lib.hid (belowOn HB0.out hW)
  have HX1 := Lib.hid (HX0.out.below hW)
  obtain ⟨x0, x1, x2, x3⟩ := HX1.out
  clear HA HB0 HX0 hW
  go_wp2_with fail
  refine (HN.out _ (HL.out.below HB1.out).spans).mono ?_
  rintro e W2 ⟨rfl, hW⟩
  have hB2 := belowOn HB1.out hW
  have hX2 := HX1.out.below hW
  have HB3 := Lib.hid (below_on hB2 (.cells #[.int .i64 a, .int .i64 b, .int .i64 c, .int .i64 d] 26))
  have HX3 := Lib.hid (hX2.below (below_new W2 (.cells #[.int .i64 a, .int .i64 b, .int .i64 c, .int .i64 d] 26)))
  have HM3 := Lib.hid (BoxAt.new W2 a b c d 26)
  clear x0 x1 x2 x3
  obtain ⟨x0, x1, x2, x3⟩ := HX3.out
  obtain ⟨m0, m1, m2, m3⟩ := HM3.out
  clear hW hB2 hX2 HX1 HB1 HN
  obtain ⟨ha1, ha2, hb1, hb2, hc1, hc2, hd1, hd2⟩ := hr
  go_wp2_with fail
  refine (HZ.out _ (HL.out.below HB3.out).spans).mono ?_
  rintro e V ⟨rfl, hW⟩
  have HA0 := Lib.hid (ABox.start n (belowOn HB3.out hW) (HX3.out.below hW) (HM3.out.below hW))
  clear hW x0 x1 x2 x3 m0 m1 m2 m3 HB3 HX3 HM3 HZ
  go_wp2_with fail
  clear hmk hmf
  go_loopw [8, 9] (fun vg vi wr => ∃ i : Nat, vi = .int .i64 i ∧ vg = .bool true ∧ (i : Int) ≤ b ∧ Hid (ABox w wr W2.heap.size V.heap.size (V.heap.size + 2) (V.heap.size + 1) n a b c d (seenF b c d (i) (0) (i * c) (0)))) (fun _ vi _ => b.toNat - (intOf vi).toNat)
  case atStart => exact ⟨0, rfl, rfl, by omega, by simpa using HA0⟩
  case round =>
    clear HA0
    obtain ⟨i, rfl, rfl, hi, HA⟩ := hrel
    obtain ⟨x0, x1, x2, x3, m0, m1, m2, m3⟩ := HA.out.two
    by_cases hlt : (i : Int) < b
    · obtain ⟨pA, hpA⟩ : ∃ p : Nat, 5 + (i : Int) = (p : Int) := ⟨(5 + (i : Int)).toNat, by omega⟩
      have hcA := In_c a b c d i
      rw [inP_in HR.out i (by omega) hlt, hpA] at hcA
      have HCA := Lib.hid hcA
      obtain ⟨szA, snA⟩ := seen_in (b := b) (c := c) (d := d) (x := i) (z := i * c) hpA.symm hd1 (by omega) (by omega) hlt
      have HSZA := Lib.hid szA; have HSNA := Lib.hid snA
      have q5A : 5 ≤ pA := by omega
      have qnA : pA < n := by have := HNn.out; omega
      clear hcA hpA szA snA
      go_wp2_with fail
      refine (HCA.out _ (HL.out.below HA.out.old).spans).mono ?_
      rintro e V1A ⟨rfl, hV⟩
      have HGA := Lib.hid (HA.out.below hV)
      clear hV HCA x0 x1 x2 x3 m0 m1 m2 m3
      try clear HA
      go_wp2_with fail
      refine (mark_c HGA.out pA q5A qnA hn20 HSZA.out).mono ?_
      rintro e V2A ⟨rfl, hV⟩
      have HHA : Hid (ABox w V2A W2.heap.size V.heap.size (V.heap.size + 2) (V.heap.size + 1) n a b c d (seenF b c d (i + 1) (0) (i * c) (0))) := Lib.hid (hV.as HSNA.out)
      clear hV HGA HSZA HSNA q5A qnA
      obtain ⟨x0, x1, x2, x3, m0, m1, m2, m3⟩ := HHA.out.two
      go_wp2_with fail
      go_loopw [8, 10] (fun vg vr wr => ∃ r : Nat, vr = .int .i64 r ∧ vg = .bool true ∧ (r : Int) ≤ c ∧ Hid (ABox w wr W2.heap.size V.heap.size (V.heap.size + 2) (V.heap.size + 1) n a b c d (seenF b c d (i + 1) (0) (i * c + r) (0)))) (fun _ vr _ => c.toNat - (intOf vr).toNat)
      case atStart => exact ⟨0, rfl, rfl, by omega, by simpa using HHA⟩
      case round =>
        clear HHA
        clear x0 x1 x2 x3 m0 m1 m2 m3
        obtain ⟨r, rfl, rfl, hrc, HA⟩ := hrel
        obtain ⟨x0, x1, x2, x3, m0, m1, m2, m3⟩ := HA.out.two
        by_cases hltr : (r : Int) < c
        · have hm := prod_lt HR.out (by omega : (0 : Int) ≤ i) hlt (by omega : (0 : Int) ≤ r) hltr
          obtain ⟨pB, hpB⟩ : ∃ p : Nat, 5 + b + d + (i : Int) * c + (r : Int) = (p : Int) := ⟨(5 + b + d + (i : Int) * c + (r : Int)).toNat, by omega⟩
          have hcB := Reg_c a b c d i r
          rw [regP_in HR.out i r (by omega) hlt (by omega) hltr, hpB] at hcB
          have HCB := Lib.hid hcB
          obtain ⟨szB, snB⟩ := seen_reg (p := pB) (b := b) (c := c) (d := d) (x := i + 1) (z := i * c + r) (by omega) hd1 (by omega) (by omega) (by omega) (by omega)
          have HSZB := Lib.hid szB; have HSNB := Lib.hid snB
          have q5B : 5 ≤ pB := by omega
          have qnB : pB < n := by have := HNn.out; omega
          clear hcB hpB szB snB
          clear hm
          go_wp2_with fail
          refine (HCB.out _ (HL.out.below HA.out.old).spans).mono ?_
          rintro e V1B ⟨rfl, hV⟩
          have HGB := Lib.hid (HA.out.below hV)
          clear hV HCB x0 x1 x2 x3 m0 m1 m2 m3
          try clear HA
          go_wp2_with fail
          refine (mark_c HGB.out pB q5B qnB hn20 HSZB.out).mono ?_
          rintro e V2B ⟨rfl, hV⟩
          have HHB : Hid (ABox w V2B W2.heap.size V.heap.size (V.heap.size + 2) (V.heap.size + 1) n a b c d (seenF b c d (i + 1) (0) (i * c + r + 1) (0))) := Lib.hid (hV.as HSNB.out)
          clear hV HGB HSZB HSNB q5B qnB
          obtain ⟨x0, x1, x2, x3, m0, m1, m2, m3⟩ := HHB.out.two
          go_wp2_with fail
          go_roundw
          case rel => exact ⟨r + 1, by go_num, rfl, by omega, by have h := HHB; rwa [show (i : Int) * c + r + 1 = i * c + ((r + 1 : Nat) : Int) by omega] at h⟩
          case measure => simp [intOf]; omega
        · have HA' : Hid (ABox w wr W2.heap.size V.heap.size (V.heap.size + 2) (V.heap.size + 1) n a b c d (seenF b c d ((i + 1 : Nat)) (0) ((i + 1 : Nat) * c) (0))) := by
            have h := HA
            rwa [show (i : Int) * c + r = ((i + 1 : Nat) : Int) * c by rw [mul_step]; omega, show (i : Int) + 1 = ((i + 1 : Nat) : Int) by omega] at h
          clear HA
          go_wp2_with fail
          go_roundw
          case rel => exact ⟨i + 1, by go_num, rfl, by omega, HA'⟩
          case measure => simp [intOf]; omega
    · have HA' : Hid (ABox w wr W2.heap.size V.heap.size (V.heap.size + 2) (V.heap.size + 1) n a b c d (seenF b c d (b) (0) (b * c) (0))) := by
        have h := HA
        rwa [show (i : Int) = b by omega] at h
      clear HA
      go_wp2_with fail
      clear hi hlt
      go_loopw [8, 11] (fun vg vi wr => ∃ i : Nat, vi = .int .i64 i ∧ vg = .bool true ∧ (i : Int) ≤ d ∧ Hid (ABox w wr W2.heap.size V.heap.size (V.heap.size + 2) (V.heap.size + 1) n a b c d (seenF b c d (b) (i) (b * c) (0)))) (fun _ vi _ => d.toNat - (intOf vi).toNat)
      case atStart => exact ⟨0, rfl, rfl, by omega, by simpa using HA'⟩
      case round =>
        clear HA'
        clear x0 x1 x2 x3 m0 m1 m2 m3
        obtain ⟨i, rfl, rfl, hi, HA⟩ := hrel
        obtain ⟨x0, x1, x2, x3, m0, m1, m2, m3⟩ := HA.out.two
        by_cases hlt : (i : Int) < d
        · obtain ⟨pC, hpC⟩ : ∃ p : Nat, 5 + b + (i : Int) = (p : Int) := ⟨(5 + b + (i : Int)).toNat, by omega⟩
          have hcC := Glob_c a b c d i
          rw [globP_in HR.out i (by omega) hlt, hpC] at hcC
          have HCC := Lib.hid hcC
          obtain ⟨szC, snC⟩ := seen_glob (b := b) (c := c) (d := d) (y := i) (z := b * c) hpC.symm (by omega) (by omega) hlt (by omega)
          have HSZC := Lib.hid szC; have HSNC := Lib.hid snC
          have q5C : 5 ≤ pC := by omega
          have qnC : pC < n := by have := HNn.out; omega
          clear hcC hpC szC snC
          go_wp2_with fail
          refine (HCC.out _ (HL.out.below HA.out.old).spans).mono ?_
          rintro e V1C ⟨rfl, hV⟩
          have HGC := Lib.hid (HA.out.below hV)
          clear hV HCC x0 x1 x2 x3 m0 m1 m2 m3
          try clear HA
          go_wp2_with fail
          refine (mark_c HGC.out pC q5C qnC hn20 HSZC.out).mono ?_
          rintro e V2C ⟨rfl, hV⟩
          have HHC : Hid (ABox w V2C W2.heap.size V.heap.size (V.heap.size + 2) (V.heap.size + 1) n a b c d (seenF b c d (b) (i + 1) (b * c) (0))) := Lib.hid (hV.as HSNC.out)
          clear hV HGC HSZC HSNC q5C qnC
          obtain ⟨x0, x1, x2, x3, m0, m1, m2, m3⟩ := HHC.out.two
          go_wp2_with fail
          go_roundw
          case rel => exact ⟨i + 1, by go_num, rfl, by omega, by have h := HHC; rwa [show (i : Int) + 1 = ((i + 1 : Nat) : Int) by omega] at h⟩
          case measure => simp [intOf]; omega
        · have HA' : Hid (ABox w wr W2.heap.size V.heap.size (V.heap.size + 2) (V.heap.size + 1) n a b c d (seenF b c d (b) (d) (b * c) (0))) := by
            have h := HA
            rwa [show (i : Int) = d by omega] at h
          clear HA
          go_wp2_with fail
          clear hi hlt
          go_loopw [8, 12] (fun vg vi wr => ∃ i : Nat, vi = .int .i64 i ∧ vg = .bool true ∧ (i : Int) ≤ a ∧ Hid (ABox w wr W2.heap.size V.heap.size (V.heap.size + 2) (V.heap.size + 1) n a b c d (seenF b c d (b) (d) (b * c) (3 * i)))) (fun _ vi _ => a.toNat - (intOf vi).toNat)
          case atStart => exact ⟨0, rfl, rfl, by omega, by simpa using HA'⟩
          case round =>
            clear HA'
            clear x0 x1 x2 x3 m0 m1 m2 m3
            obtain ⟨i, rfl, rfl, hi, HA⟩ := hrel
            obtain ⟨x0, x1, x2, x3, m0, m1, m2, m3⟩ := HA.out.two
            by_cases hlt : (i : Int) < a
            · obtain ⟨pD, hpD⟩ : ∃ p : Nat, 5 + b + d + b * c + 3 * (i : Int) + 0 = (p : Int) := ⟨(5 + b + d + b * c + 3 * (i : Int) + 0).toNat, by omega⟩
              have hcD := Car_c a b c d i
              rw [partP_in HR.out 0 i (by omega) hlt, hpD] at hcD
              have HCD := Lib.hid hcD
              obtain ⟨szD, snD⟩ := seen_cell (p := pD) (b := b) (c := c) (d := d) (u := 3 * i) (by omega) (by omega) hd1 (by omega) (by omega)
              have HSZD := Lib.hid szD; have HSND := Lib.hid snD
              have q5D : 5 ≤ pD := by omega
              have qnD : pD < n := by have := HNn.out; omega
              clear hcD hpD szD snD
              obtain ⟨pE, hpE⟩ : ∃ p : Nat, 5 + b + d + b * c + 3 * (i : Int) + 1 = (p : Int) := ⟨(5 + b + d + b * c + 3 * (i : Int) + 1).toNat, by omega⟩
              have hcE := Cdr_c a b c d i
              rw [partP_in HR.out 1 i (by omega) hlt, hpE] at hcE
              have HCE := Lib.hid hcE
              obtain ⟨szE, snE⟩ := seen_cell (p := pE) (b := b) (c := c) (d := d) (u := 3 * i + 1) (by omega) (by omega) hd1 (by omega) (by omega)
              have HSZE := Lib.hid szE; have HSNE := Lib.hid snE
              have q5E : 5 ≤ pE := by omega
              have qnE : pE < n := by have := HNn.out; omega
              clear hcE hpE szE snE
              obtain ⟨pF, hpF⟩ : ∃ p : Nat, 5 + b + d + b * c + 3 * (i : Int) + 2 = (p : Int) := ⟨(5 + b + d + b * c + 3 * (i : Int) + 2).toNat, by omega⟩
              have hcF := Colour_c a b c d i
              rw [partP_in HR.out 2 i (by omega) hlt, hpF] at hcF
              have HCF := Lib.hid hcF
              obtain ⟨szF, snF⟩ := seen_cell (p := pF) (b := b) (c := c) (d := d) (u := 3 * i + 1 + 1) (by omega) (by omega) hd1 (by omega) (by omega)
              have HSZF := Lib.hid szF; have HSNF := Lib.hid snF
              have q5F : 5 ≤ pF := by omega
              have qnF : pF < n := by have := HNn.out; omega
              clear hcF hpF szF snF
              go_wp2_with fail
              refine (HCD.out _ (HL.out.below HA.out.old).spans).mono ?_
              rintro e V1D ⟨rfl, hV⟩
              have HGD := Lib.hid (HA.out.below hV)
              clear hV HCD x0 x1 x2 x3 m0 m1 m2 m3
              try clear HA
              go_wp2_with fail
              refine (mark_c HGD.out pD q5D qnD hn20 HSZD.out).mono ?_
              rintro e V2D ⟨rfl, hV⟩
              have HHD : Hid (ABox w V2D W2.heap.size V.heap.size (V.heap.size + 2) (V.heap.size + 1) n a b c d (seenF b c d (b) (d) (b * c) (3 * i + 1))) := Lib.hid (hV.as HSND.out)
              clear hV HGD HSZD HSND q5D qnD
              obtain ⟨x0, x1, x2, x3, m0, m1, m2, m3⟩ := HHD.out.two
              go_wp2_with fail
              refine (HCE.out _ (HL.out.below HHD.out.old).spans).mono ?_
              rintro e V1E ⟨rfl, hV⟩
              have HGE := Lib.hid (HHD.out.below hV)
              clear hV HCE x0 x1 x2 x3 m0 m1 m2 m3
              try clear HHD
              go_wp2_with fail
              refine (mark_c HGE.out pE q5E qnE hn20 HSZE.out).mono ?_
              rintro e V2E ⟨rfl, hV⟩
              have HHE : Hid (ABox w V2E W2.heap.size V.heap.size (V.heap.size + 2) (V.heap.size + 1) n a b c d (seenF b c d (b) (d) (b * c) (3 * i + 1 + 1))) := Lib.hid (hV.as HSNE.out)
              clear hV HGE HSZE HSNE q5E qnE
              obtain ⟨x0, x1, x2, x3, m0, m1, m2, m3⟩ := HHE.out.two
              go_wp2_with fail
              refine (HCF.out _ (HL.out.below HHE.out.old).spans).mono ?_
              rintro e V1F ⟨rfl, hV⟩
              have HGF := Lib.hid (HHE.out.below hV)
              clear hV HCF x0 x1 x2 x3 m0 m1 m2 m3
              try clear HHE
              go_wp2_with fail
              refine (mark_c HGF.out pF q5F qnF hn20 HSZF.out).mono ?_
              rintro e V2F ⟨rfl, hV⟩
              have HHF : Hid (ABox w V2F W2.heap.size V.heap.size (V.heap.size + 2) (V.heap.size + 1) n a b c d (seenF b c d (b) (d) (b * c) (3 * i + 1 + 1 + 1))) := Lib.hid (hV.as HSNF.out)
              clear hV HGF HSZF HSNF q5F qnF
              obtain ⟨x0, x1, x2, x3, m0, m1, m2, m3⟩ := HHF.out.two
              go_wp2_with fail
              go_roundw
              case rel => exact ⟨i + 1, by go_num, rfl, by omega, by have h := HHF; rwa [show 3 * (i : Int) + 1 + 1 + 1 = 3 * ((i + 1 : Nat) : Int) by omega] at h⟩
              case measure => simp [intOf]; omega
            · have HA' : Hid (ABox w wr W2.heap.size V.heap.size (V.heap.size + 2) (V.heap.size + 1) n a b c d (seenF b c d (b) (d) (b * c) (3 * a))) := by
                have h := HA
                rwa [show (i : Int) = a by omega] at h
              have n1 := HA'.out.hn
              clear HA
              go_wp2_with fail
              clear hi hlt n1
              go_loopw [13] (fun vi wr => ∃ k : Nat, vi = .int .i64 k ∧ k ≤ n ∧ Hid (ABox w wr W2.heap.size V.heap.size (V.heap.size + 2) (V.heap.size + 1) n a b c d (seenF b c d (b) (d) (b * c) (3 * a)))) (fun vi _ => n - (intOf vi).toNat)
              case atStart => exact ⟨0, rfl, by omega, HA'⟩
              case round =>
                clear HA'
                clear x0 x1 x2 x3 m0 m1 m2 m3
                obtain ⟨k, rfl, hk, HA⟩ := hrel
                obtain ⟨x0, x1, x2, x3, m0, m1, m2, m3⟩ := HA.out.two
                have n1 := HA.out.hn
                have s1 := HA.out.hs
                by_cases hlt : k < n
                · by_cases hz0 : k = 0
                  · obtain rfl : k = 0 := by omega
                    have hn0 : 0 < n := hlt
                    have hval := seen_five b c d b d (b * c) (3 * a) 0 (by omega) (by omega) hd1 (by omega)
                    obtain ⟨c1, l1, e1⟩ := name_some HR.out (n := 0) (by omega)
                    have hK1 := Name_right a b c d 0 HR.out (by omega) (by omega)
                    rw [e1] at hK1
                    have KN1 := Lib.hid hK1
                    have hki : (0 : Int) < (n : Int) := by omega
                    have HQ0 : Hid (ABox w wr.drew W2.heap.size V.heap.size (V.heap.size + 2) (V.heap.size + 1) n a b c d (seenF b c d (b) (d) (b * c) (3 * a))) := Lib.hid (ABox.below HA.out (Below.refl _ _).drew)
                    have gS0 := cellSeen HQ0.out 0 hn0 hval
                    clear hK1 e1
                    go_wp2_with fail
                    clear x0 x1 x2 x3 m0 m1 m2 m3
                    refine wp_region_held_drew (S := (fun w' => w'.cell? ⟨w.heap.size, 0, none⟩ = some (.int .i64 a) ∧ w'.cell? ⟨w.heap.size, 1, none⟩ = some (.int .i64 b) ∧ w'.cell? ⟨w.heap.size, 2, none⟩ = some (.int .i64 c) ∧ w'.cell? ⟨w.heap.size, 3, none⟩ = some (.int .i64 d) ∧ w'.cell? ⟨W2.heap.size, 0, none⟩ = some (.int .i64 a) ∧ w'.cell? ⟨W2.heap.size, 1, none⟩ = some (.int .i64 b) ∧ w'.cell? ⟨W2.heap.size, 2, none⟩ = some (.int .i64 c) ∧ w'.cell? ⟨W2.heap.size, 3, none⟩ = some (.int .i64 d) ∧ w'.cell? ⟨V.heap.size + 2, 0, none⟩ = some (.slice (some ⟨V.heap.size + 1, 0, none⟩) n n) ∧ w'.cell? ⟨V.heap.size + 1, 0, none⟩ = some (.int .i64 0))) (by kernel_rfl) ?_ (fun hHeld => ?_)
                    · exact ⟨HQ0.out.box.1, HQ0.out.box.2.1, HQ0.out.box.2.2.1, HQ0.out.box.2.2.2, HQ0.out.map.1, HQ0.out.map.2.1, HQ0.out.map.2.2.1, HQ0.out.map.2.2.2, HQ0.out.hs, gS0⟩
                    refine wpAnyH_take (i := 0) (oi := { dst := some 111, op := Op.move (Operand.tmp 13), type := 3, pos := "law.go:84", after := #[], guard := none }) (v := ?vz0) rfl (by kernel_rfl) (by kernel_rfl) (by kernel_rfl) (fun _ _ _ h => h) (Or.inl ⟨by rfl, ?hyz0⟩) hHeld ?_
                    case hyz0 => (intro w hSw; (try dsimp only at hSw); go_simp; (try with_reducible rfl))
                    try simp only [Act.put, List.setIfInBounds_toArray, List.set_cons_zero, List.set_cons_succ]
                    refine wpAnyH_take (i := 1) (oi := { dst := some 112, op := Op.binOp BinOp.lss 3 (Operand.tmp 111) (Operand.const (Value.int IntKind.i64 5)) 3, type := 4, pos := "law.go:84", after := #[{ on := 0, ground := Ground.data }], guard := none }) (v := ?vz1) rfl (by kernel_rfl) (by kernel_rfl) (by kernel_rfl) (fun _ _ _ h => h) (Or.inl ⟨by rfl, ?hyz1⟩) hHeld ?_
                    case hyz1 => (intro w hSw; (try dsimp only at hSw); go_simp; (try with_reducible rfl))
                    try simp only [Act.put, List.setIfInBounds_toArray, List.set_cons_zero, List.set_cons_succ]
                    refine wpAnyH_take (i := 2) (oi := { dst := some 113, op := Op.move (Operand.tmp 112), type := 4, pos := "law.go:84", after := #[{ on := 1, ground := Ground.data }], guard := none }) (v := ?vz2) rfl (by kernel_rfl) (by kernel_rfl) (by kernel_rfl) (fun _ _ _ h => h) (Or.inl ⟨by rfl, ?hyz2⟩) hHeld ?_
                    case hyz2 => (intro w hSw; (try dsimp only at hSw); go_simp; (try with_reducible rfl))
                    try simp only [Act.put, List.setIfInBounds_toArray, List.set_cons_zero, List.set_cons_succ]
                    refine wpAnyH_take (i := 3) (oi := { dst := some 114, op := Op.load 44 (Operand.tmp 6), type := 44, pos := "law.go:84", after := #[{ on := 2, ground := Ground.guard }], guard := some (2, true) }) (v := ?vz3) rfl (by kernel_rfl) (by kernel_rfl) (by kernel_rfl) (fun _ _ _ h => h) (Or.inl ⟨by rfl, ?hyz3⟩) hHeld ?_
                    case hyz3 => (intro w hSw; (try dsimp only at hSw); go_simp; (try with_reducible rfl))
                    try simp only [Act.put, List.setIfInBounds_toArray, List.set_cons_zero, List.set_cons_succ]
                    refine wpAnyH_take (i := 4) (oi := { dst := some 115, op := Op.move (Operand.tmp 13), type := 3, pos := "law.go:84", after := #[{ on := 2, ground := Ground.guard }], guard := some (2, true) }) (v := ?vz4) rfl (by kernel_rfl) (by kernel_rfl) (by kernel_rfl) (fun _ _ _ h => h) (Or.inl ⟨by rfl, ?hyz4⟩) hHeld ?_
                    case hyz4 => (intro w hSw; (try dsimp only at hSw); go_simp; (try with_reducible rfl))
                    try simp only [Act.put, List.setIfInBounds_toArray, List.set_cons_zero, List.set_cons_succ]
                    refine wpAnyH_take (i := 5) (oi := { dst := some 116, op := Op.indexAddr 44 (Operand.tmp 114) (Operand.tmp 115), type := 0, pos := "law.go:84", after := #[{ on := 3, ground := Ground.data }, { on := 4, ground := Ground.data }, { on := 2, ground := Ground.guard }], guard := some (2, true) }) (v := ?vz5) rfl (by kernel_rfl) (by kernel_rfl) (by kernel_rfl) (fun _ _ _ h => h) (Or.inl ⟨by rfl, ?hyz5⟩) hHeld ?_
                    case hyz5 => (intro w hSw; (try dsimp only at hSw); go_simp; (try with_reducible rfl))
                    try simp only [Act.put, List.setIfInBounds_toArray, List.set_cons_zero, List.set_cons_succ]
                    refine wpAnyH_take (i := 6) (oi := { dst := some 117, op := Op.load 3 (Operand.tmp 116), type := 3, pos := "law.go:84", after := #[{ on := 5, ground := Ground.data }, { on := 2, ground := Ground.guard }], guard := some (2, true) }) (v := ?vz6) rfl (by kernel_rfl) (by kernel_rfl) (by kernel_rfl) (fun _ _ _ h => h) (Or.inl ⟨by rfl, ?hyz6⟩) hHeld ?_
                    case hyz6 => (intro w hSw; (try dsimp only at hSw); go_simp; (try with_reducible rfl))
                    try simp only [Act.put, List.setIfInBounds_toArray, List.set_cons_zero, List.set_cons_succ]
                    refine wpAnyH_take (i := 7) (oi := { dst := some 118, op := Op.binOp BinOp.neq 3 (Operand.tmp 117) (Operand.const (Value.int IntKind.i64 0)) 3, type := 4, pos := "law.go:84", after := #[{ on := 6, ground := Ground.data }, { on := 2, ground := Ground.guard }], guard := some (2, true) }) (v := ?vz7) rfl (by kernel_rfl) (by kernel_rfl) (by kernel_rfl) (fun _ _ _ h => h) (Or.inl ⟨by rfl, ?hyz7⟩) hHeld ?_
                    case hyz7 => (intro w hSw; (try dsimp only at hSw); go_simp; (try with_reducible rfl))
                    try simp only [Act.put, List.setIfInBounds_toArray, List.set_cons_zero, List.set_cons_succ]
                    refine wpAnyH_take (i := 8) (oi := { dst := some 119, op := Op.pick (Operand.tmp 113) (Operand.tmp 118) (Operand.const (Value.bool false)), type := 4, pos := "law.go:84", after := #[{ on := 2, ground := Ground.data }, { on := 7, ground := Ground.data }], guard := none }) (v := ?vz8) rfl (by kernel_rfl) (by kernel_rfl) (by kernel_rfl) (fun _ _ _ h => h) (Or.inl ⟨by rfl, ?hyz8⟩) hHeld ?_
                    case hyz8 => (intro w hSw; (try dsimp only at hSw); go_simp; (try with_reducible rfl))
                    try simp only [Act.put, List.setIfInBounds_toArray, List.set_cons_zero, List.set_cons_succ]
                    refine wpAnyH_take (i := 9) (oi := { dst := some 120, op := Op.move (Operand.tmp 119), type := 4, pos := "law.go:84", after := #[{ on := 8, ground := Ground.data }, { on := 2, ground := Ground.chain }], guard := none }) (v := ?vz9) rfl (by kernel_rfl) (by kernel_rfl) (by kernel_rfl) (fun _ _ _ h => h) (Or.inl ⟨by rfl, ?hyz9⟩) hHeld ?_
                    case hyz9 => (intro w hSw; (try dsimp only at hSw); go_simp; (try with_reducible rfl))
                    try simp only [Act.put, List.setIfInBounds_toArray, List.set_cons_zero, List.set_cons_succ]
                    refine wpAnyH_take (i := 10) (oi := { dst := some 121, op := Op.move (Operand.tmp 13), type := 3, pos := "law.go:84", after := #[{ on := 9, ground := Ground.guard }], guard := some (9, false) }) (v := ?vz10) rfl (by kernel_rfl) (by kernel_rfl) (by kernel_rfl) (fun _ _ _ h => h) (Or.inl ⟨by rfl, ?hyz10⟩) hHeld ?_
                    case hyz10 => (intro w hSw; (try dsimp only at hSw); go_simp; (try with_reducible rfl))
                    try simp only [Act.put, List.setIfInBounds_toArray, List.set_cons_zero, List.set_cons_succ]
                    refine wpAnyH_take (i := 11) (oi := { dst := some 122, op := Op.binOp BinOp.geq 3 (Operand.tmp 121) (Operand.const (Value.int IntKind.i64 5)) 3, type := 4, pos := "law.go:84", after := #[{ on := 10, ground := Ground.data }, { on := 9, ground := Ground.guard }], guard := some (9, false) }) (v := ?vz11) rfl (by kernel_rfl) (by kernel_rfl) (by kernel_rfl) (fun _ _ _ h => h) (Or.inl ⟨by rfl, ?hyz11⟩) hHeld ?_
                    case hyz11 => (intro w hSw; (try dsimp only at hSw); go_simp; (try with_reducible rfl))
                    try simp only [Act.put, List.setIfInBounds_toArray, List.set_cons_zero, List.set_cons_succ]
                    refine wpAnyH_take (i := 12) (oi := { dst := some 123, op := Op.move (Operand.tmp 122), type := 4, pos := "law.go:84", after := #[{ on := 11, ground := Ground.data }, { on := 9, ground := Ground.chain }, { on := 9, ground := Ground.guard }], guard := some (9, false) }) (v := ?vz12) rfl (by kernel_rfl) (by kernel_rfl) (by kernel_rfl) (fun _ _ _ h => h) (Or.inl ⟨by rfl, ?hyz12⟩) hHeld ?_
                    case hyz12 => (intro w hSw; (try dsimp only at hSw); go_simp; (try with_reducible rfl))
                    try simp only [Act.put, List.setIfInBounds_toArray, List.set_cons_zero, List.set_cons_succ]
                    refine wpAnyH_take (i := 13) (oi := { dst := some 124, op := Op.load 44 (Operand.tmp 6), type := 44, pos := "law.go:84", after := #[{ on := 12, ground := Ground.guard }], guard := some (12, true) }) (v := undef) rfl (by kernel_rfl) (by kernel_rfl) (by kernel_rfl) (fun _ _ _ h => h) (Or.inr ⟨by rfl, rfl⟩) hHeld ?_
                    try simp only [Act.put, List.setIfInBounds_toArray, List.set_cons_zero, List.set_cons_succ]
                    refine wpAnyH_take (i := 14) (oi := { dst := some 125, op := Op.move (Operand.tmp 13), type := 3, pos := "law.go:84", after := #[{ on := 12, ground := Ground.guard }], guard := some (12, true) }) (v := undef) rfl (by kernel_rfl) (by kernel_rfl) (by kernel_rfl) (fun _ _ _ h => h) (Or.inr ⟨by rfl, rfl⟩) hHeld ?_
                    try simp only [Act.put, List.setIfInBounds_toArray, List.set_cons_zero, List.set_cons_succ]
                    refine wpAnyH_take (i := 15) (oi := { dst := some 126, op := Op.indexAddr 44 (Operand.tmp 124) (Operand.tmp 125), type := 0, pos := "law.go:84", after := #[{ on := 13, ground := Ground.data }, { on := 14, ground := Ground.data }, { on := 12, ground := Ground.guard }], guard := some (12, true) }) (v := undef) rfl (by kernel_rfl) (by kernel_rfl) (by kernel_rfl) (fun _ _ _ h => h) (Or.inr ⟨by rfl, rfl⟩) hHeld ?_
                    try simp only [Act.put, List.setIfInBounds_toArray, List.set_cons_zero, List.set_cons_succ]
                    refine wpAnyH_take (i := 16) (oi := { dst := some 127, op := Op.load 3 (Operand.tmp 126), type := 3, pos := "law.go:84", after := #[{ on := 15, ground := Ground.data }, { on := 12, ground := Ground.guard }], guard := some (12, true) }) (v := undef) rfl (by kernel_rfl) (by kernel_rfl) (by kernel_rfl) (fun _ _ _ h => h) (Or.inr ⟨by rfl, rfl⟩) hHeld ?_
                    try simp only [Act.put, List.setIfInBounds_toArray, List.set_cons_zero, List.set_cons_succ]
                    refine wpAnyH_take (i := 17) (oi := { dst := some 128, op := Op.binOp BinOp.neq 3 (Operand.tmp 127) (Operand.const (Value.int IntKind.i64 1)) 3, type := 4, pos := "law.go:84", after := #[{ on := 16, ground := Ground.data }, { on := 12, ground := Ground.guard }], guard := some (12, true) }) (v := undef) rfl (by kernel_rfl) (by kernel_rfl) (by kernel_rfl) (fun _ _ _ h => h) (Or.inr ⟨by rfl, rfl⟩) hHeld ?_
                    try simp only [Act.put, List.setIfInBounds_toArray, List.set_cons_zero, List.set_cons_succ]
                    refine wpAnyH_take (i := 18) (oi := { dst := some 129, op := Op.pick (Operand.tmp 123) (Operand.tmp 128) (Operand.const (Value.bool false)), type := 4, pos := "law.go:84", after := #[{ on := 12, ground := Ground.data }, { on := 17, ground := Ground.data }, { on := 9, ground := Ground.guard }], guard := some (9, false) }) (v := ?vz18) rfl (by kernel_rfl) (by kernel_rfl) (by kernel_rfl) (fun _ _ _ h => h) (Or.inl ⟨by rfl, ?hyz18⟩) hHeld ?_
                    case hyz18 => (intro w hSw; (try dsimp only at hSw); go_simp; (try with_reducible rfl))
                    try simp only [Act.put, List.setIfInBounds_toArray, List.set_cons_zero, List.set_cons_succ]
                    refine wpAnyH_take (i := 19) (oi := { dst := some 130, op := Op.pick (Operand.tmp 120) (Operand.const (Value.bool true)) (Operand.tmp 129), type := 4, pos := "law.go:84", after := #[{ on := 9, ground := Ground.data }, { on := 18, ground := Ground.data }], guard := none }) (v := ?vz19) rfl (by kernel_rfl) (by kernel_rfl) (by kernel_rfl) (fun _ _ _ h => h) (Or.inl ⟨by rfl, ?hyz19⟩) hHeld ?_
                    case hyz19 => (intro w hSw; (try dsimp only at hSw); go_simp; (try with_reducible rfl))
                    try simp only [Act.put, List.setIfInBounds_toArray, List.set_cons_zero, List.set_cons_succ]
                    refine wpAnyH_take (i := 20) (oi := { dst := some 131, op := Op.move (Operand.tmp 130), type := 4, pos := "law.go:84", after := #[{ on := 19, ground := Ground.data }, { on := 12, ground := Ground.chain }], guard := none }) (v := ?vz20) rfl (by kernel_rfl) (by kernel_rfl) (by kernel_rfl) (fun _ _ _ h => h) (Or.inl ⟨by rfl, ?hyz20⟩) hHeld ?_
                    case hyz20 => (intro w hSw; (try dsimp only at hSw); go_simp; (try with_reducible rfl))
                    try simp only [Act.put, List.setIfInBounds_toArray, List.set_cons_zero, List.set_cons_succ]
                    refine wpAnyH_take (i := 21) (oi := { dst := some 132, op := Op.move (Operand.tmp 13), type := 3, pos := "law.go:84", after := #[{ on := 20, ground := Ground.guard }], guard := some (20, false) }) (v := ?vz21) rfl (by kernel_rfl) (by kernel_rfl) (by kernel_rfl) (fun _ _ _ h => h) (Or.inl ⟨by rfl, ?hyz21⟩) hHeld ?_
                    case hyz21 => (intro w hSw; (try dsimp only at hSw); go_simp; (try with_reducible rfl))
                    try simp only [Act.put, List.setIfInBounds_toArray, List.set_cons_zero, List.set_cons_succ]
                    refine wpAnyH_take (i := 22) (oi := { dst := some 133, op := Op.binOp BinOp.gtr 3 (Operand.tmp 132) (Operand.const (Value.int IntKind.i64 0)) 3, type := 4, pos := "law.go:84", after := #[{ on := 21, ground := Ground.data }, { on := 20, ground := Ground.guard }], guard := some (20, false) }) (v := ?vz22) rfl (by kernel_rfl) (by kernel_rfl) (by kernel_rfl) (fun _ _ _ h => h) (Or.inl ⟨by rfl, ?hyz22⟩) hHeld ?_
                    case hyz22 => (intro w hSw; (try dsimp only at hSw); go_simp; (try with_reducible rfl))
                    try simp only [Act.put, List.setIfInBounds_toArray, List.set_cons_zero, List.set_cons_succ]
                    refine wpAnyH_take (i := 23) (oi := { dst := some 134, op := Op.move (Operand.tmp 133), type := 4, pos := "law.go:84", after := #[{ on := 22, ground := Ground.data }, { on := 20, ground := Ground.chain }, { on := 20, ground := Ground.guard }], guard := some (20, false) }) (v := ?vz23) rfl (by kernel_rfl) (by kernel_rfl) (by kernel_rfl) (fun _ _ _ h => h) (Or.inl ⟨by rfl, ?hyz23⟩) hHeld ?_
                    case hyz23 => (intro w hSw; (try dsimp only at hSw); go_simp; (try with_reducible rfl))
                    try simp only [Act.put, List.setIfInBounds_toArray, List.set_cons_zero, List.set_cons_succ]
                    refine wpAnyH_take (i := 24) (oi := { dst := some 135, op := Op.load 26 (Operand.tmp 3), type := 26, pos := "law.go:84", after := #[{ on := 23, ground := Ground.guard }], guard := some (23, true) }) (v := undef) rfl (by kernel_rfl) (by kernel_rfl) (by kernel_rfl) (fun _ _ _ h => h) (Or.inr ⟨by rfl, rfl⟩) hHeld ?_
                    try simp only [Act.put, List.setIfInBounds_toArray, List.set_cons_zero, List.set_cons_succ]
                    refine wpAnyH_take (i := 25) (oi := { dst := some 136, op := Op.move (Operand.tmp 13), type := 3, pos := "law.go:84", after := #[{ on := 23, ground := Ground.guard }], guard := some (23, true) }) (v := undef) rfl (by kernel_rfl) (by kernel_rfl) (by kernel_rfl) (fun _ _ _ h => h) (Or.inr ⟨by rfl, rfl⟩) hHeld ?_
                    try simp only [Act.put, List.setIfInBounds_toArray, List.set_cons_zero, List.set_cons_succ]
                    refine wpAnyH_take (i := 26) (oi := { dst := some 137, op := Op.call { callee := Callee.value (Operand.func 21), args := #[Operand.tmp 135, Operand.tmp 136], argTypes := #[26, 3] }, type := 9, pos := "law.go:84", after := #[{ on := 24, ground := Ground.data }, { on := 25, ground := Ground.data }, { on := 23, ground := Ground.chain }, { on := 23, ground := Ground.guard }], guard := some (23, true) }) (v := undef) rfl (by kernel_rfl) (by kernel_rfl) (by kernel_rfl) (fun _ _ _ h => h) (Or.inr ⟨by rfl, rfl⟩) hHeld ?_
                    try simp only [Act.put, List.setIfInBounds_toArray, List.set_cons_zero, List.set_cons_succ]
                    refine wpAnyH_take (i := 27) (oi := { dst := some 138, op := Op.load 26 (Operand.tmp 3), type := 26, pos := "law.go:84", after := #[{ on := 23, ground := Ground.guard }], guard := some (23, true) }) (v := undef) rfl (by kernel_rfl) (by kernel_rfl) (by kernel_rfl) (fun _ _ _ h => h) (Or.inr ⟨by rfl, rfl⟩) hHeld ?_
                    try simp only [Act.put, List.setIfInBounds_toArray, List.set_cons_zero, List.set_cons_succ]
                    refine wpAnyH_take (i := 28) (oi := { dst := some 139, op := Op.move (Operand.tmp 13), type := 3, pos := "law.go:84", after := #[{ on := 23, ground := Ground.guard }], guard := some (23, true) }) (v := undef) rfl (by kernel_rfl) (by kernel_rfl) (by kernel_rfl) (fun _ _ _ h => h) (Or.inr ⟨by rfl, rfl⟩) hHeld ?_
                    try simp only [Act.put, List.setIfInBounds_toArray, List.set_cons_zero, List.set_cons_succ]
                    refine wpAnyH_take (i := 29) (oi := { dst := some 140, op := Op.binOp BinOp.sub 3 (Operand.tmp 139) (Operand.const (Value.int IntKind.i64 1)) 3, type := 3, pos := "law.go:84", after := #[{ on := 28, ground := Ground.data }, { on := 23, ground := Ground.guard }], guard := some (23, true) }) (v := undef) rfl (by kernel_rfl) (by kernel_rfl) (by kernel_rfl) (fun _ _ _ h => h) (Or.inr ⟨by rfl, rfl⟩) hHeld ?_
                    try simp only [Act.put, List.setIfInBounds_toArray, List.set_cons_zero, List.set_cons_succ]
                    refine wpAnyH_take (i := 30) (oi := { dst := some 141, op := Op.call { callee := Callee.value (Operand.func 21), args := #[Operand.tmp 138, Operand.tmp 140], argTypes := #[26, 3] }, type := 9, pos := "law.go:84", after := #[{ on := 27, ground := Ground.data }, { on := 29, ground := Ground.data }, { on := 26, ground := Ground.chain }, { on := 23, ground := Ground.guard }], guard := some (23, true) }) (v := undef) rfl (by kernel_rfl) (by kernel_rfl) (by kernel_rfl) (fun _ _ _ h => h) (Or.inr ⟨by rfl, rfl⟩) hHeld ?_
                    try simp only [Act.put, List.setIfInBounds_toArray, List.set_cons_zero, List.set_cons_succ]
                    refine wpAnyH_take (i := 31) (oi := { dst := some 142, op := Op.binOp BinOp.eql 9 (Operand.tmp 137) (Operand.tmp 141) 9, type := 4, pos := "law.go:84", after := #[{ on := 26, ground := Ground.data }, { on := 30, ground := Ground.data }, { on := 23, ground := Ground.guard }], guard := some (23, true) }) (v := undef) rfl (by kernel_rfl) (by kernel_rfl) (by kernel_rfl) (fun _ _ _ h => h) (Or.inr ⟨by rfl, rfl⟩) hHeld ?_
                    try simp only [Act.put, List.setIfInBounds_toArray, List.set_cons_zero, List.set_cons_succ]
                    refine wpAnyH_take (i := 32) (oi := { dst := some 143, op := Op.pick (Operand.tmp 134) (Operand.tmp 142) (Operand.const (Value.bool false)), type := 4, pos := "law.go:84", after := #[{ on := 23, ground := Ground.data }, { on := 31, ground := Ground.data }, { on := 20, ground := Ground.guard }], guard := some (20, false) }) (v := ?vz32) rfl (by kernel_rfl) (by kernel_rfl) (by kernel_rfl) (fun _ _ _ h => h) (Or.inl ⟨by rfl, ?hyz32⟩) hHeld ?_
                    case hyz32 => (intro w hSw; (try dsimp only at hSw); go_simp; (try with_reducible rfl))
                    try simp only [Act.put, List.setIfInBounds_toArray, List.set_cons_zero, List.set_cons_succ]
                    refine wpAnyH_take (i := 33) (oi := { dst := some 144, op := Op.pick (Operand.tmp 131) (Operand.const (Value.bool true)) (Operand.tmp 143), type := 4, pos := "law.go:84", after := #[{ on := 20, ground := Ground.data }, { on := 32, ground := Ground.data }], guard := none }) (v := ?vz33) rfl (by kernel_rfl) (by kernel_rfl) (by kernel_rfl) (fun _ _ _ h => h) (Or.inl ⟨by rfl, ?hyz33⟩) hHeld ?_
                    case hyz33 => (intro w hSw; (try dsimp only at hSw); go_simp; (try with_reducible rfl))
                    try simp only [Act.put, List.setIfInBounds_toArray, List.set_cons_zero, List.set_cons_succ]
                    refine wpAnyH_take (i := 34) (oi := { dst := some 145, op := Op.move (Operand.tmp 144), type := 4, pos := "law.go:84", after := #[{ on := 33, ground := Ground.data }, { on := 30, ground := Ground.chain }], guard := none }) (v := ?vz34) rfl (by kernel_rfl) (by kernel_rfl) (by kernel_rfl) (fun _ _ _ h => h) (Or.inl ⟨by rfl, ?hyz34⟩) hHeld ?_
                    case hyz34 => (intro w hSw; (try dsimp only at hSw); go_simp; (try with_reducible rfl))
                    try simp only [Act.put, List.setIfInBounds_toArray, List.set_cons_zero, List.set_cons_succ]
                    refine wpAnyH_take (i := 35) (oi := { dst := some 146, op := Op.load 26 (Operand.tmp 3), type := 26, pos := "law.go:84", after := #[{ on := 34, ground := Ground.guard }], guard := some (34, false) }) (v := ?vz35) rfl (by kernel_rfl) (by kernel_rfl) (by kernel_rfl) (fun _ _ _ h => h) (Or.inl ⟨by rfl, ?hyz35⟩) hHeld ?_
                    case hyz35 => (intro w hSw; (try dsimp only at hSw); go_simp; (try with_reducible rfl))
                    try simp only [Act.put, List.setIfInBounds_toArray, List.set_cons_zero, List.set_cons_succ]
                    refine wpAnyH_take (i := 36) (oi := { dst := some 147, op := Op.move (Operand.tmp 13), type := 3, pos := "law.go:84", after := #[{ on := 34, ground := Ground.guard }], guard := some (34, false) }) (v := ?vz36) rfl (by kernel_rfl) (by kernel_rfl) (by kernel_rfl) (fun _ _ _ h => h) (Or.inl ⟨by rfl, ?hyz36⟩) hHeld ?_
                    case hyz36 => (intro w hSw; (try dsimp only at hSw); go_simp; (try with_reducible rfl))
                    try simp only [Act.put, List.setIfInBounds_toArray, List.set_cons_zero, List.set_cons_succ]
                    refine wpAnyH_ready (rs := [37]) (by kernel_rfl) (by simp) ?_
                    refine AllReadyH.cons (o := { dst := some 148, op := Op.call { callee := Callee.value (Operand.func 21), args := #[Operand.tmp 146, Operand.tmp 147], argTypes := #[26, 3] }, type := 9, pos := "law.go:84", after := #[{ on := 35, ground := Ground.data }, { on := 36, ground := Ground.data }, { on := 34, ground := Ground.chain }, { on := 34, ground := Ground.guard }], guard := some (34, false) }) rfl (fun K hK => ?_) AllReadyH.nil
                    go_simp
                    refine (KN1.out _ (HL.out.below HQ0.out.old)).mono ?_
                    rintro e v1 ⟨rfl, hV⟩
                    have HQ1 := Lib.hid (HQ0.out.below hV)
                    have gS1 := cellSeen HQ1.out 0 hn0 hval
                    clear hV hHeld
                    try go_wp2_with fail
                    refine hK.out _ _ ?_ (fun hHeld => ?_)
                    · exact ⟨HQ1.out.box.1, HQ1.out.box.2.1, HQ1.out.box.2.2.1, HQ1.out.box.2.2.2, HQ1.out.map.1, HQ1.out.map.2.1, HQ1.out.map.2.2.1, HQ1.out.map.2.2.2, HQ1.out.hs, gS1⟩
                    clear hK K
                    try simp only [Act.put, List.setIfInBounds_toArray, List.set_cons_zero, List.set_cons_succ]
                    refine wpAnyH_take (i := 38) (oi := { dst := some 149, op := Op.binOp BinOp.eql 9 (Operand.tmp 148) (Operand.const (Value.string { data := #[] })) 9, type := 4, pos := "law.go:84", after := #[{ on := 37, ground := Ground.data }, { on := 34, ground := Ground.guard }], guard := some (34, false) }) (v := ?vz38) rfl (by kernel_rfl) (by kernel_rfl) (by kernel_rfl) (fun _ _ _ h => h) (Or.inl ⟨by rfl, ?hyz38⟩) hHeld ?_
                    case hyz38 => (intro w hSw; (try dsimp only at hSw); go_simp; (try with_reducible rfl))
                    try simp only [Act.put, List.setIfInBounds_toArray, List.set_cons_zero, List.set_cons_succ]
                    refine wpAnyH_take (i := 39) (oi := { dst := some 150, op := Op.pick (Operand.tmp 145) (Operand.const (Value.bool true)) (Operand.tmp 149), type := 4, pos := "law.go:84", after := #[{ on := 34, ground := Ground.data }, { on := 38, ground := Ground.data }], guard := none }) (v := ?vz39) rfl (by kernel_rfl) (by kernel_rfl) (by kernel_rfl) (fun _ _ _ h => h) (Or.inl ⟨by rfl, ?hyz39⟩) hHeld ?_
                    case hyz39 => (intro w hSw; (try dsimp only at hSw); go_simp; (try with_reducible rfl))
                    try simp only [Act.put, List.setIfInBounds_toArray, List.set_cons_zero, List.set_cons_succ]
                    refine wpAnyH_done (by kernel_rfl) ?_ _
                    clear hHeld
                    clear gS0 gS1
                    obtain ⟨x0, x1, x2, x3, m0, m1, m2, m3⟩ := HQ1.out.two
                    go_wp2_with fail
                    go_roundw
                    case rel => exact ⟨1, by first | rfl | go_num, by omega, HQ1⟩
                    case measure => simp [intOf]; omega
                  by_cases h5 : k < 5
                  · have hval := seen_five b c d b d (b * c) (3 * a) k (by omega) (by omega) hd1 (by omega)
                    obtain ⟨c1, l1, e1⟩ := name_some HR.out (n := k) (by omega)
                    have hap := names_apart HR.out (n := k) (by omega)
                    have hK1 := Name_right a b c d k HR.out (by omega) (by have := HNn.out; omega)
                    have hK0 := Name_right a b c d (k - 1) HR.out (by omega) (by have := HNn.out; omega)
                    rw [e1] at hK1 hap
                    have KN1 := Lib.hid hK1; have KN0 := Lib.hid hK0
                    generalize nameOf (spotF b c d (k - 1)) = N0 at *
                    have hq : (c1 :: l1 == N0) = false := by simpa using hap
                    have hki : (k : Int) < (n : Int) := by omega
                    have hk0 : (0 : Int) ≤ (k : Int) := by omega
                    have d1 : decide ((k : Int) < 5) = true := decide_eq_true (by omega)
                    have d2 : decide ((5 : Int) ≤ (k : Int)) = false := decide_eq_false (by omega)
                    have d3 : decide ((0 : Int) < (k : Int)) = true := decide_eq_true (by omega)
                    have d4 : decide (0 < k) = true := decide_eq_true (by omega)
                    have hw1 : IntKind.i64.wrap ((k : Int) - 1) = (k : Int) - 1 := IntWalk.i64_in _ (by omega)
                    have HQ0 : Hid (ABox w wr.drew W2.heap.size V.heap.size (V.heap.size + 2) (V.heap.size + 1) n a b c d (seenF b c d (b) (d) (b * c) (3 * a))) := Lib.hid (ABox.below HA.out (Below.refl _ _).drew)
                    have gS0 := cellSeen HQ0.out k hlt hval
                    clear hap hK1 hK0 e1
                    go_wp2_with fail
                    clear x0 x1 x2 x3 m0 m1 m2 m3
                    refine wp_region_held_drew (S := (fun w' => w'.cell? ⟨w.heap.size, 0, none⟩ = some (.int .i64 a) ∧ w'.cell? ⟨w.heap.size, 1, none⟩ = some (.int .i64 b) ∧ w'.cell? ⟨w.heap.size, 2, none⟩ = some (.int .i64 c) ∧ w'.cell? ⟨w.heap.size, 3, none⟩ = some (.int .i64 d) ∧ w'.cell? ⟨W2.heap.size, 0, none⟩ = some (.int .i64 a) ∧ w'.cell? ⟨W2.heap.size, 1, none⟩ = some (.int .i64 b) ∧ w'.cell? ⟨W2.heap.size, 2, none⟩ = some (.int .i64 c) ∧ w'.cell? ⟨W2.heap.size, 3, none⟩ = some (.int .i64 d) ∧ w'.cell? ⟨V.heap.size + 2, 0, none⟩ = some (.slice (some ⟨V.heap.size + 1, 0, none⟩) n n) ∧ w'.cell? ⟨V.heap.size + 1, k, none⟩ = some (.int .i64 0))) (by kernel_rfl) ?_ (fun hHeld => ?_)
                    · exact ⟨HQ0.out.box.1, HQ0.out.box.2.1, HQ0.out.box.2.2.1, HQ0.out.box.2.2.2, HQ0.out.map.1, HQ0.out.map.2.1, HQ0.out.map.2.2.1, HQ0.out.map.2.2.2, HQ0.out.hs, gS0⟩
                    refine wpAnyH_take (i := 0) (oi := { dst := some 111, op := Op.move (Operand.tmp 13), type := 3, pos := "law.go:84", after := #[], guard := none }) (v := ?vl0) rfl (by kernel_rfl) (by kernel_rfl) (by kernel_rfl) (fun _ _ _ h => h) (Or.inl ⟨by rfl, ?hyl0⟩) hHeld ?_
                    case hyl0 => (intro w hSw; (try dsimp only at hSw); go_simp; (try with_reducible rfl))
                    try simp only [Act.put, List.setIfInBounds_toArray, List.set_cons_zero, List.set_cons_succ]
                    refine wpAnyH_take (i := 1) (oi := { dst := some 112, op := Op.binOp BinOp.lss 3 (Operand.tmp 111) (Operand.const (Value.int IntKind.i64 5)) 3, type := 4, pos := "law.go:84", after := #[{ on := 0, ground := Ground.data }], guard := none }) (v := ?vl1) rfl (by kernel_rfl) (by kernel_rfl) (by kernel_rfl) (fun _ _ _ h => h) (Or.inl ⟨by rfl, ?hyl1⟩) hHeld ?_
                    case hyl1 => (intro w hSw; (try dsimp only at hSw); go_simp; (try with_reducible rfl))
                    try simp only [Act.put, List.setIfInBounds_toArray, List.set_cons_zero, List.set_cons_succ]
                    refine wpAnyH_take (i := 2) (oi := { dst := some 113, op := Op.move (Operand.tmp 112), type := 4, pos := "law.go:84", after := #[{ on := 1, ground := Ground.data }], guard := none }) (v := ?vl2) rfl (by kernel_rfl) (by kernel_rfl) (by kernel_rfl) (fun _ _ _ h => h) (Or.inl ⟨by rfl, ?hyl2⟩) hHeld ?_
                    case hyl2 => (intro w hSw; (try dsimp only at hSw); go_simp; (try with_reducible rfl))
                    try simp only [Act.put, List.setIfInBounds_toArray, List.set_cons_zero, List.set_cons_succ]
                    refine wpAnyH_take (i := 3) (oi := { dst := some 114, op := Op.load 44 (Operand.tmp 6), type := 44, pos := "law.go:84", after := #[{ on := 2, ground := Ground.guard }], guard := some (2, true) }) (v := ?vl3) rfl (by kernel_rfl) (by kernel_rfl) (by kernel_rfl) (fun _ _ _ h => h) (Or.inl ⟨by rfl, ?hyl3⟩) hHeld ?_
                    case hyl3 => (intro w hSw; (try dsimp only at hSw); go_simp; (try with_reducible rfl))
                    try simp only [Act.put, List.setIfInBounds_toArray, List.set_cons_zero, List.set_cons_succ]
                    refine wpAnyH_take (i := 4) (oi := { dst := some 115, op := Op.move (Operand.tmp 13), type := 3, pos := "law.go:84", after := #[{ on := 2, ground := Ground.guard }], guard := some (2, true) }) (v := ?vl4) rfl (by kernel_rfl) (by kernel_rfl) (by kernel_rfl) (fun _ _ _ h => h) (Or.inl ⟨by rfl, ?hyl4⟩) hHeld ?_
                    case hyl4 => (intro w hSw; (try dsimp only at hSw); go_simp; (try with_reducible rfl))
                    try simp only [Act.put, List.setIfInBounds_toArray, List.set_cons_zero, List.set_cons_succ]
                    refine wpAnyH_take (i := 5) (oi := { dst := some 116, op := Op.indexAddr 44 (Operand.tmp 114) (Operand.tmp 115), type := 0, pos := "law.go:84", after := #[{ on := 3, ground := Ground.data }, { on := 4, ground := Ground.data }, { on := 2, ground := Ground.guard }], guard := some (2, true) }) (v := ?vl5) rfl (by kernel_rfl) (by kernel_rfl) (by kernel_rfl) (fun _ _ _ h => h) (Or.inl ⟨by rfl, ?hyl5⟩) hHeld ?_
                    case hyl5 => (intro w hSw; (try dsimp only at hSw); go_simp; (try with_reducible rfl))
                    try simp only [Act.put, List.setIfInBounds_toArray, List.set_cons_zero, List.set_cons_succ]
                    refine wpAnyH_take (i := 6) (oi := { dst := some 117, op := Op.load 3 (Operand.tmp 116), type := 3, pos := "law.go:84", after := #[{ on := 5, ground := Ground.data }, { on := 2, ground := Ground.guard }], guard := some (2, true) }) (v := ?vl6) rfl (by kernel_rfl) (by kernel_rfl) (by kernel_rfl) (fun _ _ _ h => h) (Or.inl ⟨by rfl, ?hyl6⟩) hHeld ?_
                    case hyl6 => (intro w hSw; (try dsimp only at hSw); go_simp; (try with_reducible rfl))
                    try simp only [Act.put, List.setIfInBounds_toArray, List.set_cons_zero, List.set_cons_succ]
                    refine wpAnyH_take (i := 7) (oi := { dst := some 118, op := Op.binOp BinOp.neq 3 (Operand.tmp 117) (Operand.const (Value.int IntKind.i64 0)) 3, type := 4, pos := "law.go:84", after := #[{ on := 6, ground := Ground.data }, { on := 2, ground := Ground.guard }], guard := some (2, true) }) (v := ?vl7) rfl (by kernel_rfl) (by kernel_rfl) (by kernel_rfl) (fun _ _ _ h => h) (Or.inl ⟨by rfl, ?hyl7⟩) hHeld ?_
                    case hyl7 => (intro w hSw; (try dsimp only at hSw); go_simp; (try with_reducible rfl))
                    try simp only [Act.put, List.setIfInBounds_toArray, List.set_cons_zero, List.set_cons_succ]
                    refine wpAnyH_take (i := 8) (oi := { dst := some 119, op := Op.pick (Operand.tmp 113) (Operand.tmp 118) (Operand.const (Value.bool false)), type := 4, pos := "law.go:84", after := #[{ on := 2, ground := Ground.data }, { on := 7, ground := Ground.data }], guard := none }) (v := ?vl8) rfl (by kernel_rfl) (by kernel_rfl) (by kernel_rfl) (fun _ _ _ h => h) (Or.inl ⟨by rfl, ?hyl8⟩) hHeld ?_
                    case hyl8 => (intro w hSw; (try dsimp only at hSw); go_simp; (try with_reducible rfl))
                    try simp only [Act.put, List.setIfInBounds_toArray, List.set_cons_zero, List.set_cons_succ]
                    refine wpAnyH_take (i := 9) (oi := { dst := some 120, op := Op.move (Operand.tmp 119), type := 4, pos := "law.go:84", after := #[{ on := 8, ground := Ground.data }, { on := 2, ground := Ground.chain }], guard := none }) (v := ?vl9) rfl (by kernel_rfl) (by kernel_rfl) (by kernel_rfl) (fun _ _ _ h => h) (Or.inl ⟨by rfl, ?hyl9⟩) hHeld ?_
                    case hyl9 => (intro w hSw; (try dsimp only at hSw); go_simp; (try with_reducible rfl))
                    try simp only [Act.put, List.setIfInBounds_toArray, List.set_cons_zero, List.set_cons_succ]
                    refine wpAnyH_take (i := 10) (oi := { dst := some 121, op := Op.move (Operand.tmp 13), type := 3, pos := "law.go:84", after := #[{ on := 9, ground := Ground.guard }], guard := some (9, false) }) (v := ?vl10) rfl (by kernel_rfl) (by kernel_rfl) (by kernel_rfl) (fun _ _ _ h => h) (Or.inl ⟨by rfl, ?hyl10⟩) hHeld ?_
                    case hyl10 => (intro w hSw; (try dsimp only at hSw); go_simp; (try with_reducible rfl))
                    try simp only [Act.put, List.setIfInBounds_toArray, List.set_cons_zero, List.set_cons_succ]
                    refine wpAnyH_take (i := 11) (oi := { dst := some 122, op := Op.binOp BinOp.geq 3 (Operand.tmp 121) (Operand.const (Value.int IntKind.i64 5)) 3, type := 4, pos := "law.go:84", after := #[{ on := 10, ground := Ground.data }, { on := 9, ground := Ground.guard }], guard := some (9, false) }) (v := ?vl11) rfl (by kernel_rfl) (by kernel_rfl) (by kernel_rfl) (fun _ _ _ h => h) (Or.inl ⟨by rfl, ?hyl11⟩) hHeld ?_
                    case hyl11 => (intro w hSw; (try dsimp only at hSw); go_simp; (try with_reducible rfl))
                    try simp only [Act.put, List.setIfInBounds_toArray, List.set_cons_zero, List.set_cons_succ]
                    refine wpAnyH_take (i := 12) (oi := { dst := some 123, op := Op.move (Operand.tmp 122), type := 4, pos := "law.go:84", after := #[{ on := 11, ground := Ground.data }, { on := 9, ground := Ground.chain }, { on := 9, ground := Ground.guard }], guard := some (9, false) }) (v := ?vl12) rfl (by kernel_rfl) (by kernel_rfl) (by kernel_rfl) (fun _ _ _ h => h) (Or.inl ⟨by rfl, ?hyl12⟩) hHeld ?_
                    case hyl12 => (intro w hSw; (try dsimp only at hSw); go_simp; (try with_reducible rfl))
                    try simp only [Act.put, List.setIfInBounds_toArray, List.set_cons_zero, List.set_cons_succ]
                    refine wpAnyH_take (i := 13) (oi := { dst := some 124, op := Op.load 44 (Operand.tmp 6), type := 44, pos := "law.go:84", after := #[{ on := 12, ground := Ground.guard }], guard := some (12, true) }) (v := undef) rfl (by kernel_rfl) (by kernel_rfl) (by kernel_rfl) (fun _ _ _ h => h) (Or.inr ⟨by rfl, rfl⟩) hHeld ?_
                    try simp only [Act.put, List.setIfInBounds_toArray, List.set_cons_zero, List.set_cons_succ]
                    refine wpAnyH_take (i := 14) (oi := { dst := some 125, op := Op.move (Operand.tmp 13), type := 3, pos := "law.go:84", after := #[{ on := 12, ground := Ground.guard }], guard := some (12, true) }) (v := undef) rfl (by kernel_rfl) (by kernel_rfl) (by kernel_rfl) (fun _ _ _ h => h) (Or.inr ⟨by rfl, rfl⟩) hHeld ?_
                    try simp only [Act.put, List.setIfInBounds_toArray, List.set_cons_zero, List.set_cons_succ]
                    refine wpAnyH_take (i := 15) (oi := { dst := some 126, op := Op.indexAddr 44 (Operand.tmp 124) (Operand.tmp 125), type := 0, pos := "law.go:84", after := #[{ on := 13, ground := Ground.data }, { on := 14, ground := Ground.data }, { on := 12, ground := Ground.guard }], guard := some (12, true) }) (v := undef) rfl (by kernel_rfl) (by kernel_rfl) (by kernel_rfl) (fun _ _ _ h => h) (Or.inr ⟨by rfl, rfl⟩) hHeld ?_
                    try simp only [Act.put, List.setIfInBounds_toArray, List.set_cons_zero, List.set_cons_succ]
                    refine wpAnyH_take (i := 16) (oi := { dst := some 127, op := Op.load 3 (Operand.tmp 126), type := 3, pos := "law.go:84", after := #[{ on := 15, ground := Ground.data }, { on := 12, ground := Ground.guard }], guard := some (12, true) }) (v := undef) rfl (by kernel_rfl) (by kernel_rfl) (by kernel_rfl) (fun _ _ _ h => h) (Or.inr ⟨by rfl, rfl⟩) hHeld ?_
                    try simp only [Act.put, List.setIfInBounds_toArray, List.set_cons_zero, List.set_cons_succ]
                    refine wpAnyH_take (i := 17) (oi := { dst := some 128, op := Op.binOp BinOp.neq 3 (Operand.tmp 127) (Operand.const (Value.int IntKind.i64 1)) 3, type := 4, pos := "law.go:84", after := #[{ on := 16, ground := Ground.data }, { on := 12, ground := Ground.guard }], guard := some (12, true) }) (v := undef) rfl (by kernel_rfl) (by kernel_rfl) (by kernel_rfl) (fun _ _ _ h => h) (Or.inr ⟨by rfl, rfl⟩) hHeld ?_
                    try simp only [Act.put, List.setIfInBounds_toArray, List.set_cons_zero, List.set_cons_succ]
                    refine wpAnyH_take (i := 18) (oi := { dst := some 129, op := Op.pick (Operand.tmp 123) (Operand.tmp 128) (Operand.const (Value.bool false)), type := 4, pos := "law.go:84", after := #[{ on := 12, ground := Ground.data }, { on := 17, ground := Ground.data }, { on := 9, ground := Ground.guard }], guard := some (9, false) }) (v := ?vl18) rfl (by kernel_rfl) (by kernel_rfl) (by kernel_rfl) (fun _ _ _ h => h) (Or.inl ⟨by rfl, ?hyl18⟩) hHeld ?_
                    case hyl18 => (intro w hSw; (try dsimp only at hSw); go_simp; (try with_reducible rfl))
                    try simp only [Act.put, List.setIfInBounds_toArray, List.set_cons_zero, List.set_cons_succ]
                    refine wpAnyH_take (i := 19) (oi := { dst := some 130, op := Op.pick (Operand.tmp 120) (Operand.const (Value.bool true)) (Operand.tmp 129), type := 4, pos := "law.go:84", after := #[{ on := 9, ground := Ground.data }, { on := 18, ground := Ground.data }], guard := none }) (v := ?vl19) rfl (by kernel_rfl) (by kernel_rfl) (by kernel_rfl) (fun _ _ _ h => h) (Or.inl ⟨by rfl, ?hyl19⟩) hHeld ?_
                    case hyl19 => (intro w hSw; (try dsimp only at hSw); go_simp; (try with_reducible rfl))
                    try simp only [Act.put, List.setIfInBounds_toArray, List.set_cons_zero, List.set_cons_succ]
                    refine wpAnyH_take (i := 20) (oi := { dst := some 131, op := Op.move (Operand.tmp 130), type := 4, pos := "law.go:84", after := #[{ on := 19, ground := Ground.data }, { on := 12, ground := Ground.chain }], guard := none }) (v := ?vl20) rfl (by kernel_rfl) (by kernel_rfl) (by kernel_rfl) (fun _ _ _ h => h) (Or.inl ⟨by rfl, ?hyl20⟩) hHeld ?_
                    case hyl20 => (intro w hSw; (try dsimp only at hSw); go_simp; (try with_reducible rfl))
                    try simp only [Act.put, List.setIfInBounds_toArray, List.set_cons_zero, List.set_cons_succ]
                    refine wpAnyH_take (i := 21) (oi := { dst := some 132, op := Op.move (Operand.tmp 13), type := 3, pos := "law.go:84", after := #[{ on := 20, ground := Ground.guard }], guard := some (20, false) }) (v := ?vl21) rfl (by kernel_rfl) (by kernel_rfl) (by kernel_rfl) (fun _ _ _ h => h) (Or.inl ⟨by rfl, ?hyl21⟩) hHeld ?_
                    case hyl21 => (intro w hSw; (try dsimp only at hSw); go_simp; (try with_reducible rfl))
                    try simp only [Act.put, List.setIfInBounds_toArray, List.set_cons_zero, List.set_cons_succ]
                    refine wpAnyH_take (i := 22) (oi := { dst := some 133, op := Op.binOp BinOp.gtr 3 (Operand.tmp 132) (Operand.const (Value.int IntKind.i64 0)) 3, type := 4, pos := "law.go:84", after := #[{ on := 21, ground := Ground.data }, { on := 20, ground := Ground.guard }], guard := some (20, false) }) (v := ?vl22) rfl (by kernel_rfl) (by kernel_rfl) (by kernel_rfl) (fun _ _ _ h => h) (Or.inl ⟨by rfl, ?hyl22⟩) hHeld ?_
                    case hyl22 => (intro w hSw; (try dsimp only at hSw); go_simp; (try with_reducible rfl))
                    try simp only [Act.put, List.setIfInBounds_toArray, List.set_cons_zero, List.set_cons_succ]
                    refine wpAnyH_take (i := 23) (oi := { dst := some 134, op := Op.move (Operand.tmp 133), type := 4, pos := "law.go:84", after := #[{ on := 22, ground := Ground.data }, { on := 20, ground := Ground.chain }, { on := 20, ground := Ground.guard }], guard := some (20, false) }) (v := ?vl23) rfl (by kernel_rfl) (by kernel_rfl) (by kernel_rfl) (fun _ _ _ h => h) (Or.inl ⟨by rfl, ?hyl23⟩) hHeld ?_
                    case hyl23 => (intro w hSw; (try dsimp only at hSw); go_simp; (try with_reducible rfl))
                    try simp only [Act.put, List.setIfInBounds_toArray, List.set_cons_zero, List.set_cons_succ]
                    refine wpAnyH_take (i := 24) (oi := { dst := some 135, op := Op.load 26 (Operand.tmp 3), type := 26, pos := "law.go:84", after := #[{ on := 23, ground := Ground.guard }], guard := some (23, true) }) (v := ?vl24) rfl (by kernel_rfl) (by kernel_rfl) (by kernel_rfl) (fun _ _ _ h => h) (Or.inl ⟨by rfl, ?hyl24⟩) hHeld ?_
                    case hyl24 => (intro w hSw; (try dsimp only at hSw); go_simp; (try with_reducible rfl))
                    try simp only [Act.put, List.setIfInBounds_toArray, List.set_cons_zero, List.set_cons_succ]
                    refine wpAnyH_take (i := 25) (oi := { dst := some 136, op := Op.move (Operand.tmp 13), type := 3, pos := "law.go:84", after := #[{ on := 23, ground := Ground.guard }], guard := some (23, true) }) (v := ?vl25) rfl (by kernel_rfl) (by kernel_rfl) (by kernel_rfl) (fun _ _ _ h => h) (Or.inl ⟨by rfl, ?hyl25⟩) hHeld ?_
                    case hyl25 => (intro w hSw; (try dsimp only at hSw); go_simp; (try with_reducible rfl))
                    try simp only [Act.put, List.setIfInBounds_toArray, List.set_cons_zero, List.set_cons_succ]
                    refine wpAnyH_take (i := 27) (oi := { dst := some 138, op := Op.load 26 (Operand.tmp 3), type := 26, pos := "law.go:84", after := #[{ on := 23, ground := Ground.guard }], guard := some (23, true) }) (v := ?vl27) rfl (by kernel_rfl) (by kernel_rfl) (by kernel_rfl) (fun _ _ _ h => h) (Or.inl ⟨by rfl, ?hyl27⟩) hHeld ?_
                    case hyl27 => (intro w hSw; (try dsimp only at hSw); go_simp; (try with_reducible rfl))
                    try simp only [Act.put, List.setIfInBounds_toArray, List.set_cons_zero, List.set_cons_succ]
                    refine wpAnyH_take (i := 28) (oi := { dst := some 139, op := Op.move (Operand.tmp 13), type := 3, pos := "law.go:84", after := #[{ on := 23, ground := Ground.guard }], guard := some (23, true) }) (v := ?vl28) rfl (by kernel_rfl) (by kernel_rfl) (by kernel_rfl) (fun _ _ _ h => h) (Or.inl ⟨by rfl, ?hyl28⟩) hHeld ?_
                    case hyl28 => (intro w hSw; (try dsimp only at hSw); go_simp; (try with_reducible rfl))
                    try simp only [Act.put, List.setIfInBounds_toArray, List.set_cons_zero, List.set_cons_succ]
                    refine wpAnyH_take (i := 29) (oi := { dst := some 140, op := Op.binOp BinOp.sub 3 (Operand.tmp 139) (Operand.const (Value.int IntKind.i64 1)) 3, type := 3, pos := "law.go:84", after := #[{ on := 28, ground := Ground.data }, { on := 23, ground := Ground.guard }], guard := some (23, true) }) (v := ?vl29) rfl (by kernel_rfl) (by kernel_rfl) (by kernel_rfl) (fun _ _ _ h => h) (Or.inl ⟨by rfl, ?hyl29⟩) hHeld ?_
                    case hyl29 => (intro w hSw; (try dsimp only at hSw); go_simp; (try with_reducible rfl))
                    try simp only [Act.put, List.setIfInBounds_toArray, List.set_cons_zero, List.set_cons_succ]
                    refine wpAnyH_ready (rs := [26]) (by kernel_rfl) (by simp) ?_
                    refine AllReadyH.cons (o := { dst := some 137, op := Op.call { callee := Callee.value (Operand.func 21), args := #[Operand.tmp 135, Operand.tmp 136], argTypes := #[26, 3] }, type := 9, pos := "law.go:84", after := #[{ on := 24, ground := Ground.data }, { on := 25, ground := Ground.data }, { on := 23, ground := Ground.chain }, { on := 23, ground := Ground.guard }], guard := some (23, true) }) rfl (fun K hK => ?_) AllReadyH.nil
                    go_simp
                    refine (KN1.out _ (HL.out.below HQ0.out.old)).mono ?_
                    rintro e v1 ⟨rfl, hV⟩
                    have HQ1 := Lib.hid (HQ0.out.below hV)
                    have gS1 := cellSeen HQ1.out k hlt hval
                    clear hV hHeld
                    try go_wp2_with fail
                    refine hK.out _ _ ?_ (fun hHeld => ?_)
                    · exact ⟨HQ1.out.box.1, HQ1.out.box.2.1, HQ1.out.box.2.2.1, HQ1.out.box.2.2.2, HQ1.out.map.1, HQ1.out.map.2.1, HQ1.out.map.2.2.1, HQ1.out.map.2.2.2, HQ1.out.hs, gS1⟩
                    clear hK K
                    try simp only [Act.put, List.setIfInBounds_toArray, List.set_cons_zero, List.set_cons_succ]
                    refine wpAnyH_ready (rs := [30]) (by kernel_rfl) (by simp) ?_
                    refine AllReadyH.cons (o := { dst := some 141, op := Op.call { callee := Callee.value (Operand.func 21), args := #[Operand.tmp 138, Operand.tmp 140], argTypes := #[26, 3] }, type := 9, pos := "law.go:84", after := #[{ on := 27, ground := Ground.data }, { on := 29, ground := Ground.data }, { on := 26, ground := Ground.chain }, { on := 23, ground := Ground.guard }], guard := some (23, true) }) rfl (fun K hK => ?_) AllReadyH.nil
                    go_simp
                    refine (KN0.out _ (HL.out.below HQ1.out.old)).mono ?_
                    rintro e v2 ⟨rfl, hV⟩
                    have HQ2 := Lib.hid (HQ1.out.below hV)
                    have gS2 := cellSeen HQ2.out k hlt hval
                    clear hV hHeld
                    try go_wp2_with fail
                    refine hK.out _ _ ?_ (fun hHeld => ?_)
                    · exact ⟨HQ2.out.box.1, HQ2.out.box.2.1, HQ2.out.box.2.2.1, HQ2.out.box.2.2.2, HQ2.out.map.1, HQ2.out.map.2.1, HQ2.out.map.2.2.1, HQ2.out.map.2.2.2, HQ2.out.hs, gS2⟩
                    clear hK K
                    try simp only [Act.put, List.setIfInBounds_toArray, List.set_cons_zero, List.set_cons_succ]
                    refine wpAnyH_take (i := 31) (oi := { dst := some 142, op := Op.binOp BinOp.eql 9 (Operand.tmp 137) (Operand.tmp 141) 9, type := 4, pos := "law.go:84", after := #[{ on := 26, ground := Ground.data }, { on := 30, ground := Ground.data }, { on := 23, ground := Ground.guard }], guard := some (23, true) }) (v := ?vl31) rfl (by kernel_rfl) (by kernel_rfl) (by kernel_rfl) (fun _ _ _ h => h) (Or.inl ⟨by rfl, ?hyl31⟩) hHeld ?_
                    case hyl31 => (intro w hSw; (try dsimp only at hSw); go_simp; (try with_reducible rfl))
                    try simp only [Act.put, List.setIfInBounds_toArray, List.set_cons_zero, List.set_cons_succ]
                    refine wpAnyH_take (i := 32) (oi := { dst := some 143, op := Op.pick (Operand.tmp 134) (Operand.tmp 142) (Operand.const (Value.bool false)), type := 4, pos := "law.go:84", after := #[{ on := 23, ground := Ground.data }, { on := 31, ground := Ground.data }, { on := 20, ground := Ground.guard }], guard := some (20, false) }) (v := ?vl32) rfl (by kernel_rfl) (by kernel_rfl) (by kernel_rfl) (fun _ _ _ h => h) (Or.inl ⟨by rfl, ?hyl32⟩) hHeld ?_
                    case hyl32 => (intro w hSw; (try dsimp only at hSw); go_simp; (try with_reducible rfl))
                    try simp only [Act.put, List.setIfInBounds_toArray, List.set_cons_zero, List.set_cons_succ]
                    refine wpAnyH_take (i := 33) (oi := { dst := some 144, op := Op.pick (Operand.tmp 131) (Operand.const (Value.bool true)) (Operand.tmp 143), type := 4, pos := "law.go:84", after := #[{ on := 20, ground := Ground.data }, { on := 32, ground := Ground.data }], guard := none }) (v := ?vl33) rfl (by kernel_rfl) (by kernel_rfl) (by kernel_rfl) (fun _ _ _ h => h) (Or.inl ⟨by rfl, ?hyl33⟩) hHeld ?_
                    case hyl33 => (intro w hSw; (try dsimp only at hSw); go_simp; (try with_reducible rfl))
                    try simp only [Act.put, List.setIfInBounds_toArray, List.set_cons_zero, List.set_cons_succ]
                    refine wpAnyH_take (i := 34) (oi := { dst := some 145, op := Op.move (Operand.tmp 144), type := 4, pos := "law.go:84", after := #[{ on := 33, ground := Ground.data }, { on := 30, ground := Ground.chain }], guard := none }) (v := ?vl34) rfl (by kernel_rfl) (by kernel_rfl) (by kernel_rfl) (fun _ _ _ h => h) (Or.inl ⟨by rfl, ?hyl34⟩) hHeld ?_
                    case hyl34 => (intro w hSw; (try dsimp only at hSw); go_simp; (try with_reducible rfl))
                    try simp only [Act.put, List.setIfInBounds_toArray, List.set_cons_zero, List.set_cons_succ]
                    refine wpAnyH_take (i := 35) (oi := { dst := some 146, op := Op.load 26 (Operand.tmp 3), type := 26, pos := "law.go:84", after := #[{ on := 34, ground := Ground.guard }], guard := some (34, false) }) (v := ?vl35) rfl (by kernel_rfl) (by kernel_rfl) (by kernel_rfl) (fun _ _ _ h => h) (Or.inl ⟨by rfl, ?hyl35⟩) hHeld ?_
                    case hyl35 => (intro w hSw; (try dsimp only at hSw); go_simp; (try with_reducible rfl))
                    try simp only [Act.put, List.setIfInBounds_toArray, List.set_cons_zero, List.set_cons_succ]
                    refine wpAnyH_take (i := 36) (oi := { dst := some 147, op := Op.move (Operand.tmp 13), type := 3, pos := "law.go:84", after := #[{ on := 34, ground := Ground.guard }], guard := some (34, false) }) (v := ?vl36) rfl (by kernel_rfl) (by kernel_rfl) (by kernel_rfl) (fun _ _ _ h => h) (Or.inl ⟨by rfl, ?hyl36⟩) hHeld ?_
                    case hyl36 => (intro w hSw; (try dsimp only at hSw); go_simp; (try with_reducible rfl))
                    try simp only [Act.put, List.setIfInBounds_toArray, List.set_cons_zero, List.set_cons_succ]
                    refine wpAnyH_ready (rs := [37]) (by kernel_rfl) (by simp) ?_
                    refine AllReadyH.cons (o := { dst := some 148, op := Op.call { callee := Callee.value (Operand.func 21), args := #[Operand.tmp 146, Operand.tmp 147], argTypes := #[26, 3] }, type := 9, pos := "law.go:84", after := #[{ on := 35, ground := Ground.data }, { on := 36, ground := Ground.data }, { on := 34, ground := Ground.chain }, { on := 34, ground := Ground.guard }], guard := some (34, false) }) rfl (fun K hK => ?_) AllReadyH.nil
                    go_simp
                    refine (KN1.out _ (HL.out.below HQ2.out.old)).mono ?_
                    rintro e v3 ⟨rfl, hV⟩
                    have HQ3 := Lib.hid (HQ2.out.below hV)
                    have gS3 := cellSeen HQ3.out k hlt hval
                    clear hV hHeld
                    try go_wp2_with fail
                    refine hK.out _ _ ?_ (fun hHeld => ?_)
                    · exact ⟨HQ3.out.box.1, HQ3.out.box.2.1, HQ3.out.box.2.2.1, HQ3.out.box.2.2.2, HQ3.out.map.1, HQ3.out.map.2.1, HQ3.out.map.2.2.1, HQ3.out.map.2.2.2, HQ3.out.hs, gS3⟩
                    clear hK K
                    try simp only [Act.put, List.setIfInBounds_toArray, List.set_cons_zero, List.set_cons_succ]
                    refine wpAnyH_take (i := 38) (oi := { dst := some 149, op := Op.binOp BinOp.eql 9 (Operand.tmp 148) (Operand.const (Value.string { data := #[] })) 9, type := 4, pos := "law.go:84", after := #[{ on := 37, ground := Ground.data }, { on := 34, ground := Ground.guard }], guard := some (34, false) }) (v := ?vl38) rfl (by kernel_rfl) (by kernel_rfl) (by kernel_rfl) (fun _ _ _ h => h) (Or.inl ⟨by rfl, ?hyl38⟩) hHeld ?_
                    case hyl38 => (intro w hSw; (try dsimp only at hSw); go_simp; (try with_reducible rfl))
                    try simp only [Act.put, List.setIfInBounds_toArray, List.set_cons_zero, List.set_cons_succ]
                    refine wpAnyH_take (i := 39) (oi := { dst := some 150, op := Op.pick (Operand.tmp 145) (Operand.const (Value.bool true)) (Operand.tmp 149), type := 4, pos := "law.go:84", after := #[{ on := 34, ground := Ground.data }, { on := 38, ground := Ground.data }], guard := none }) (v := ?vl39) rfl (by kernel_rfl) (by kernel_rfl) (by kernel_rfl) (fun _ _ _ h => h) (Or.inl ⟨by rfl, ?hyl39⟩) hHeld ?_
                    case hyl39 => (intro w hSw; (try dsimp only at hSw); go_simp; (try with_reducible rfl))
                    try simp only [Act.put, List.setIfInBounds_toArray, List.set_cons_zero, List.set_cons_succ]
                    refine wpAnyH_done (by kernel_rfl) ?_ _
                    clear hHeld
                    clear d1 d2 d3 d4 hw1 hq
                    clear gS0 gS1 gS2 gS3
                    obtain ⟨x0, x1, x2, x3, m0, m1, m2, m3⟩ := HQ3.out.two
                    go_wp2_with fail
                    go_roundw
                    case rel => exact ⟨k + 1, by first | rfl | go_num, by omega, HQ3⟩
                    case measure => simp [intOf]; omega
                  · have hval := seen_all (a := a) (b := b) (c := c) (d := d) (j := k) (by omega) (by omega) hd1 (by omega) (by have := HNn.out; omega)
                    obtain ⟨c1, l1, e1⟩ := name_some HR.out (n := k) (by omega)
                    have hap := names_apart HR.out (n := k) (by omega)
                    have hK1 := Name_right a b c d k HR.out (by omega) (by have := HNn.out; omega)
                    have hK0 := Name_right a b c d (k - 1) HR.out (by omega) (by have := HNn.out; omega)
                    rw [e1] at hK1 hap
                    have KN1 := Lib.hid hK1; have KN0 := Lib.hid hK0
                    generalize nameOf (spotF b c d (k - 1)) = N0 at *
                    have hq : (c1 :: l1 == N0) = false := by simpa using hap
                    have hki : (k : Int) < (n : Int) := by omega
                    have hk0 : (0 : Int) ≤ (k : Int) := by omega
                    have d1 : decide ((k : Int) < 5) = false := decide_eq_false (by omega)
                    have d2 : decide ((5 : Int) ≤ (k : Int)) = true := decide_eq_true (by omega)
                    have d3 : decide ((0 : Int) < (k : Int)) = true := decide_eq_true (by omega)
                    have d4 : decide (0 < k) = true := decide_eq_true (by omega)
                    have hw1 : IntKind.i64.wrap ((k : Int) - 1) = (k : Int) - 1 := IntWalk.i64_in _ (by omega)
                    have HQ0 : Hid (ABox w wr.drew W2.heap.size V.heap.size (V.heap.size + 2) (V.heap.size + 1) n a b c d (seenF b c d (b) (d) (b * c) (3 * a))) := Lib.hid (ABox.below HA.out (Below.refl _ _).drew)
                    have gS0 := cellSeen HQ0.out k hlt hval
                    clear hap hK1 hK0 e1
                    go_wp2_with fail
                    clear x0 x1 x2 x3 m0 m1 m2 m3
                    refine wp_region_held_drew (S := (fun w' => w'.cell? ⟨w.heap.size, 0, none⟩ = some (.int .i64 a) ∧ w'.cell? ⟨w.heap.size, 1, none⟩ = some (.int .i64 b) ∧ w'.cell? ⟨w.heap.size, 2, none⟩ = some (.int .i64 c) ∧ w'.cell? ⟨w.heap.size, 3, none⟩ = some (.int .i64 d) ∧ w'.cell? ⟨W2.heap.size, 0, none⟩ = some (.int .i64 a) ∧ w'.cell? ⟨W2.heap.size, 1, none⟩ = some (.int .i64 b) ∧ w'.cell? ⟨W2.heap.size, 2, none⟩ = some (.int .i64 c) ∧ w'.cell? ⟨W2.heap.size, 3, none⟩ = some (.int .i64 d) ∧ w'.cell? ⟨V.heap.size + 2, 0, none⟩ = some (.slice (some ⟨V.heap.size + 1, 0, none⟩) n n) ∧ w'.cell? ⟨V.heap.size + 1, k, none⟩ = some (.int .i64 1))) (by kernel_rfl) ?_ (fun hHeld => ?_)
                    · exact ⟨HQ0.out.box.1, HQ0.out.box.2.1, HQ0.out.box.2.2.1, HQ0.out.box.2.2.2, HQ0.out.map.1, HQ0.out.map.2.1, HQ0.out.map.2.2.1, HQ0.out.map.2.2.2, HQ0.out.hs, gS0⟩
                    refine wpAnyH_take (i := 0) (oi := { dst := some 111, op := Op.move (Operand.tmp 13), type := 3, pos := "law.go:84", after := #[], guard := none }) (v := ?vh0) rfl (by kernel_rfl) (by kernel_rfl) (by kernel_rfl) (fun _ _ _ h => h) (Or.inl ⟨by rfl, ?hyh0⟩) hHeld ?_
                    case hyh0 => (intro w hSw; (try dsimp only at hSw); go_simp; (try with_reducible rfl))
                    try simp only [Act.put, List.setIfInBounds_toArray, List.set_cons_zero, List.set_cons_succ]
                    refine wpAnyH_take (i := 1) (oi := { dst := some 112, op := Op.binOp BinOp.lss 3 (Operand.tmp 111) (Operand.const (Value.int IntKind.i64 5)) 3, type := 4, pos := "law.go:84", after := #[{ on := 0, ground := Ground.data }], guard := none }) (v := ?vh1) rfl (by kernel_rfl) (by kernel_rfl) (by kernel_rfl) (fun _ _ _ h => h) (Or.inl ⟨by rfl, ?hyh1⟩) hHeld ?_
                    case hyh1 => (intro w hSw; (try dsimp only at hSw); go_simp; (try with_reducible rfl))
                    try simp only [Act.put, List.setIfInBounds_toArray, List.set_cons_zero, List.set_cons_succ]
                    refine wpAnyH_take (i := 2) (oi := { dst := some 113, op := Op.move (Operand.tmp 112), type := 4, pos := "law.go:84", after := #[{ on := 1, ground := Ground.data }], guard := none }) (v := ?vh2) rfl (by kernel_rfl) (by kernel_rfl) (by kernel_rfl) (fun _ _ _ h => h) (Or.inl ⟨by rfl, ?hyh2⟩) hHeld ?_
                    case hyh2 => (intro w hSw; (try dsimp only at hSw); go_simp; (try with_reducible rfl))
                    try simp only [Act.put, List.setIfInBounds_toArray, List.set_cons_zero, List.set_cons_succ]
                    refine wpAnyH_take (i := 3) (oi := { dst := some 114, op := Op.load 44 (Operand.tmp 6), type := 44, pos := "law.go:84", after := #[{ on := 2, ground := Ground.guard }], guard := some (2, true) }) (v := undef) rfl (by kernel_rfl) (by kernel_rfl) (by kernel_rfl) (fun _ _ _ h => h) (Or.inr ⟨by rfl, rfl⟩) hHeld ?_
                    try simp only [Act.put, List.setIfInBounds_toArray, List.set_cons_zero, List.set_cons_succ]
                    refine wpAnyH_take (i := 4) (oi := { dst := some 115, op := Op.move (Operand.tmp 13), type := 3, pos := "law.go:84", after := #[{ on := 2, ground := Ground.guard }], guard := some (2, true) }) (v := undef) rfl (by kernel_rfl) (by kernel_rfl) (by kernel_rfl) (fun _ _ _ h => h) (Or.inr ⟨by rfl, rfl⟩) hHeld ?_
                    try simp only [Act.put, List.setIfInBounds_toArray, List.set_cons_zero, List.set_cons_succ]
                    refine wpAnyH_take (i := 5) (oi := { dst := some 116, op := Op.indexAddr 44 (Operand.tmp 114) (Operand.tmp 115), type := 0, pos := "law.go:84", after := #[{ on := 3, ground := Ground.data }, { on := 4, ground := Ground.data }, { on := 2, ground := Ground.guard }], guard := some (2, true) }) (v := undef) rfl (by kernel_rfl) (by kernel_rfl) (by kernel_rfl) (fun _ _ _ h => h) (Or.inr ⟨by rfl, rfl⟩) hHeld ?_
                    try simp only [Act.put, List.setIfInBounds_toArray, List.set_cons_zero, List.set_cons_succ]
                    refine wpAnyH_take (i := 6) (oi := { dst := some 117, op := Op.load 3 (Operand.tmp 116), type := 3, pos := "law.go:84", after := #[{ on := 5, ground := Ground.data }, { on := 2, ground := Ground.guard }], guard := some (2, true) }) (v := undef) rfl (by kernel_rfl) (by kernel_rfl) (by kernel_rfl) (fun _ _ _ h => h) (Or.inr ⟨by rfl, rfl⟩) hHeld ?_
                    try simp only [Act.put, List.setIfInBounds_toArray, List.set_cons_zero, List.set_cons_succ]
                    refine wpAnyH_take (i := 7) (oi := { dst := some 118, op := Op.binOp BinOp.neq 3 (Operand.tmp 117) (Operand.const (Value.int IntKind.i64 0)) 3, type := 4, pos := "law.go:84", after := #[{ on := 6, ground := Ground.data }, { on := 2, ground := Ground.guard }], guard := some (2, true) }) (v := undef) rfl (by kernel_rfl) (by kernel_rfl) (by kernel_rfl) (fun _ _ _ h => h) (Or.inr ⟨by rfl, rfl⟩) hHeld ?_
                    try simp only [Act.put, List.setIfInBounds_toArray, List.set_cons_zero, List.set_cons_succ]
                    refine wpAnyH_take (i := 8) (oi := { dst := some 119, op := Op.pick (Operand.tmp 113) (Operand.tmp 118) (Operand.const (Value.bool false)), type := 4, pos := "law.go:84", after := #[{ on := 2, ground := Ground.data }, { on := 7, ground := Ground.data }], guard := none }) (v := ?vh8) rfl (by kernel_rfl) (by kernel_rfl) (by kernel_rfl) (fun _ _ _ h => h) (Or.inl ⟨by rfl, ?hyh8⟩) hHeld ?_
                    case hyh8 => (intro w hSw; (try dsimp only at hSw); go_simp; (try with_reducible rfl))
                    try simp only [Act.put, List.setIfInBounds_toArray, List.set_cons_zero, List.set_cons_succ]
                    refine wpAnyH_take (i := 9) (oi := { dst := some 120, op := Op.move (Operand.tmp 119), type := 4, pos := "law.go:84", after := #[{ on := 8, ground := Ground.data }, { on := 2, ground := Ground.chain }], guard := none }) (v := ?vh9) rfl (by kernel_rfl) (by kernel_rfl) (by kernel_rfl) (fun _ _ _ h => h) (Or.inl ⟨by rfl, ?hyh9⟩) hHeld ?_
                    case hyh9 => (intro w hSw; (try dsimp only at hSw); go_simp; (try with_reducible rfl))
                    try simp only [Act.put, List.setIfInBounds_toArray, List.set_cons_zero, List.set_cons_succ]
                    refine wpAnyH_take (i := 10) (oi := { dst := some 121, op := Op.move (Operand.tmp 13), type := 3, pos := "law.go:84", after := #[{ on := 9, ground := Ground.guard }], guard := some (9, false) }) (v := ?vh10) rfl (by kernel_rfl) (by kernel_rfl) (by kernel_rfl) (fun _ _ _ h => h) (Or.inl ⟨by rfl, ?hyh10⟩) hHeld ?_
                    case hyh10 => (intro w hSw; (try dsimp only at hSw); go_simp; (try with_reducible rfl))
                    try simp only [Act.put, List.setIfInBounds_toArray, List.set_cons_zero, List.set_cons_succ]
                    refine wpAnyH_take (i := 11) (oi := { dst := some 122, op := Op.binOp BinOp.geq 3 (Operand.tmp 121) (Operand.const (Value.int IntKind.i64 5)) 3, type := 4, pos := "law.go:84", after := #[{ on := 10, ground := Ground.data }, { on := 9, ground := Ground.guard }], guard := some (9, false) }) (v := ?vh11) rfl (by kernel_rfl) (by kernel_rfl) (by kernel_rfl) (fun _ _ _ h => h) (Or.inl ⟨by rfl, ?hyh11⟩) hHeld ?_
                    case hyh11 => (intro w hSw; (try dsimp only at hSw); go_simp; (try with_reducible rfl))
                    try simp only [Act.put, List.setIfInBounds_toArray, List.set_cons_zero, List.set_cons_succ]
                    refine wpAnyH_take (i := 12) (oi := { dst := some 123, op := Op.move (Operand.tmp 122), type := 4, pos := "law.go:84", after := #[{ on := 11, ground := Ground.data }, { on := 9, ground := Ground.chain }, { on := 9, ground := Ground.guard }], guard := some (9, false) }) (v := ?vh12) rfl (by kernel_rfl) (by kernel_rfl) (by kernel_rfl) (fun _ _ _ h => h) (Or.inl ⟨by rfl, ?hyh12⟩) hHeld ?_
                    case hyh12 => (intro w hSw; (try dsimp only at hSw); go_simp; (try with_reducible rfl))
                    try simp only [Act.put, List.setIfInBounds_toArray, List.set_cons_zero, List.set_cons_succ]
                    refine wpAnyH_take (i := 13) (oi := { dst := some 124, op := Op.load 44 (Operand.tmp 6), type := 44, pos := "law.go:84", after := #[{ on := 12, ground := Ground.guard }], guard := some (12, true) }) (v := ?vh13) rfl (by kernel_rfl) (by kernel_rfl) (by kernel_rfl) (fun _ _ _ h => h) (Or.inl ⟨by rfl, ?hyh13⟩) hHeld ?_
                    case hyh13 => (intro w hSw; (try dsimp only at hSw); go_simp; (try with_reducible rfl))
                    try simp only [Act.put, List.setIfInBounds_toArray, List.set_cons_zero, List.set_cons_succ]
                    refine wpAnyH_take (i := 14) (oi := { dst := some 125, op := Op.move (Operand.tmp 13), type := 3, pos := "law.go:84", after := #[{ on := 12, ground := Ground.guard }], guard := some (12, true) }) (v := ?vh14) rfl (by kernel_rfl) (by kernel_rfl) (by kernel_rfl) (fun _ _ _ h => h) (Or.inl ⟨by rfl, ?hyh14⟩) hHeld ?_
                    case hyh14 => (intro w hSw; (try dsimp only at hSw); go_simp; (try with_reducible rfl))
                    try simp only [Act.put, List.setIfInBounds_toArray, List.set_cons_zero, List.set_cons_succ]
                    refine wpAnyH_take (i := 15) (oi := { dst := some 126, op := Op.indexAddr 44 (Operand.tmp 124) (Operand.tmp 125), type := 0, pos := "law.go:84", after := #[{ on := 13, ground := Ground.data }, { on := 14, ground := Ground.data }, { on := 12, ground := Ground.guard }], guard := some (12, true) }) (v := ?vh15) rfl (by kernel_rfl) (by kernel_rfl) (by kernel_rfl) (fun _ _ _ h => h) (Or.inl ⟨by rfl, ?hyh15⟩) hHeld ?_
                    case hyh15 => (intro w hSw; (try dsimp only at hSw); go_simp; (try with_reducible rfl))
                    try simp only [Act.put, List.setIfInBounds_toArray, List.set_cons_zero, List.set_cons_succ]
                    refine wpAnyH_take (i := 16) (oi := { dst := some 127, op := Op.load 3 (Operand.tmp 126), type := 3, pos := "law.go:84", after := #[{ on := 15, ground := Ground.data }, { on := 12, ground := Ground.guard }], guard := some (12, true) }) (v := ?vh16) rfl (by kernel_rfl) (by kernel_rfl) (by kernel_rfl) (fun _ _ _ h => h) (Or.inl ⟨by rfl, ?hyh16⟩) hHeld ?_
                    case hyh16 => (intro w hSw; (try dsimp only at hSw); go_simp; (try with_reducible rfl))
                    try simp only [Act.put, List.setIfInBounds_toArray, List.set_cons_zero, List.set_cons_succ]
                    refine wpAnyH_take (i := 17) (oi := { dst := some 128, op := Op.binOp BinOp.neq 3 (Operand.tmp 127) (Operand.const (Value.int IntKind.i64 1)) 3, type := 4, pos := "law.go:84", after := #[{ on := 16, ground := Ground.data }, { on := 12, ground := Ground.guard }], guard := some (12, true) }) (v := ?vh17) rfl (by kernel_rfl) (by kernel_rfl) (by kernel_rfl) (fun _ _ _ h => h) (Or.inl ⟨by rfl, ?hyh17⟩) hHeld ?_
                    case hyh17 => (intro w hSw; (try dsimp only at hSw); go_simp; (try with_reducible rfl))
                    try simp only [Act.put, List.setIfInBounds_toArray, List.set_cons_zero, List.set_cons_succ]
                    refine wpAnyH_take (i := 18) (oi := { dst := some 129, op := Op.pick (Operand.tmp 123) (Operand.tmp 128) (Operand.const (Value.bool false)), type := 4, pos := "law.go:84", after := #[{ on := 12, ground := Ground.data }, { on := 17, ground := Ground.data }, { on := 9, ground := Ground.guard }], guard := some (9, false) }) (v := ?vh18) rfl (by kernel_rfl) (by kernel_rfl) (by kernel_rfl) (fun _ _ _ h => h) (Or.inl ⟨by rfl, ?hyh18⟩) hHeld ?_
                    case hyh18 => (intro w hSw; (try dsimp only at hSw); go_simp; (try with_reducible rfl))
                    try simp only [Act.put, List.setIfInBounds_toArray, List.set_cons_zero, List.set_cons_succ]
                    refine wpAnyH_take (i := 19) (oi := { dst := some 130, op := Op.pick (Operand.tmp 120) (Operand.const (Value.bool true)) (Operand.tmp 129), type := 4, pos := "law.go:84", after := #[{ on := 9, ground := Ground.data }, { on := 18, ground := Ground.data }], guard := none }) (v := ?vh19) rfl (by kernel_rfl) (by kernel_rfl) (by kernel_rfl) (fun _ _ _ h => h) (Or.inl ⟨by rfl, ?hyh19⟩) hHeld ?_
                    case hyh19 => (intro w hSw; (try dsimp only at hSw); go_simp; (try with_reducible rfl))
                    try simp only [Act.put, List.setIfInBounds_toArray, List.set_cons_zero, List.set_cons_succ]
                    refine wpAnyH_take (i := 20) (oi := { dst := some 131, op := Op.move (Operand.tmp 130), type := 4, pos := "law.go:84", after := #[{ on := 19, ground := Ground.data }, { on := 12, ground := Ground.chain }], guard := none }) (v := ?vh20) rfl (by kernel_rfl) (by kernel_rfl) (by kernel_rfl) (fun _ _ _ h => h) (Or.inl ⟨by rfl, ?hyh20⟩) hHeld ?_
                    case hyh20 => (intro w hSw; (try dsimp only at hSw); go_simp; (try with_reducible rfl))
                    try simp only [Act.put, List.setIfInBounds_toArray, List.set_cons_zero, List.set_cons_succ]
                    refine wpAnyH_take (i := 21) (oi := { dst := some 132, op := Op.move (Operand.tmp 13), type := 3, pos := "law.go:84", after := #[{ on := 20, ground := Ground.guard }], guard := some (20, false) }) (v := ?vh21) rfl (by kernel_rfl) (by kernel_rfl) (by kernel_rfl) (fun _ _ _ h => h) (Or.inl ⟨by rfl, ?hyh21⟩) hHeld ?_
                    case hyh21 => (intro w hSw; (try dsimp only at hSw); go_simp; (try with_reducible rfl))
                    try simp only [Act.put, List.setIfInBounds_toArray, List.set_cons_zero, List.set_cons_succ]
                    refine wpAnyH_take (i := 22) (oi := { dst := some 133, op := Op.binOp BinOp.gtr 3 (Operand.tmp 132) (Operand.const (Value.int IntKind.i64 0)) 3, type := 4, pos := "law.go:84", after := #[{ on := 21, ground := Ground.data }, { on := 20, ground := Ground.guard }], guard := some (20, false) }) (v := ?vh22) rfl (by kernel_rfl) (by kernel_rfl) (by kernel_rfl) (fun _ _ _ h => h) (Or.inl ⟨by rfl, ?hyh22⟩) hHeld ?_
                    case hyh22 => (intro w hSw; (try dsimp only at hSw); go_simp; (try with_reducible rfl))
                    try simp only [Act.put, List.setIfInBounds_toArray, List.set_cons_zero, List.set_cons_succ]
                    refine wpAnyH_take (i := 23) (oi := { dst := some 134, op := Op.move (Operand.tmp 133), type := 4, pos := "law.go:84", after := #[{ on := 22, ground := Ground.data }, { on := 20, ground := Ground.chain }, { on := 20, ground := Ground.guard }], guard := some (20, false) }) (v := ?vh23) rfl (by kernel_rfl) (by kernel_rfl) (by kernel_rfl) (fun _ _ _ h => h) (Or.inl ⟨by rfl, ?hyh23⟩) hHeld ?_
                    case hyh23 => (intro w hSw; (try dsimp only at hSw); go_simp; (try with_reducible rfl))
                    try simp only [Act.put, List.setIfInBounds_toArray, List.set_cons_zero, List.set_cons_succ]
                    refine wpAnyH_take (i := 24) (oi := { dst := some 135, op := Op.load 26 (Operand.tmp 3), type := 26, pos := "law.go:84", after := #[{ on := 23, ground := Ground.guard }], guard := some (23, true) }) (v := ?vh24) rfl (by kernel_rfl) (by kernel_rfl) (by kernel_rfl) (fun _ _ _ h => h) (Or.inl ⟨by rfl, ?hyh24⟩) hHeld ?_
                    case hyh24 => (intro w hSw; (try dsimp only at hSw); go_simp; (try with_reducible rfl))
                    try simp only [Act.put, List.setIfInBounds_toArray, List.set_cons_zero, List.set_cons_succ]
                    refine wpAnyH_take (i := 25) (oi := { dst := some 136, op := Op.move (Operand.tmp 13), type := 3, pos := "law.go:84", after := #[{ on := 23, ground := Ground.guard }], guard := some (23, true) }) (v := ?vh25) rfl (by kernel_rfl) (by kernel_rfl) (by kernel_rfl) (fun _ _ _ h => h) (Or.inl ⟨by rfl, ?hyh25⟩) hHeld ?_
                    case hyh25 => (intro w hSw; (try dsimp only at hSw); go_simp; (try with_reducible rfl))
                    try simp only [Act.put, List.setIfInBounds_toArray, List.set_cons_zero, List.set_cons_succ]
                    refine wpAnyH_take (i := 27) (oi := { dst := some 138, op := Op.load 26 (Operand.tmp 3), type := 26, pos := "law.go:84", after := #[{ on := 23, ground := Ground.guard }], guard := some (23, true) }) (v := ?vh27) rfl (by kernel_rfl) (by kernel_rfl) (by kernel_rfl) (fun _ _ _ h => h) (Or.inl ⟨by rfl, ?hyh27⟩) hHeld ?_
                    case hyh27 => (intro w hSw; (try dsimp only at hSw); go_simp; (try with_reducible rfl))
                    try simp only [Act.put, List.setIfInBounds_toArray, List.set_cons_zero, List.set_cons_succ]
                    refine wpAnyH_take (i := 28) (oi := { dst := some 139, op := Op.move (Operand.tmp 13), type := 3, pos := "law.go:84", after := #[{ on := 23, ground := Ground.guard }], guard := some (23, true) }) (v := ?vh28) rfl (by kernel_rfl) (by kernel_rfl) (by kernel_rfl) (fun _ _ _ h => h) (Or.inl ⟨by rfl, ?hyh28⟩) hHeld ?_
                    case hyh28 => (intro w hSw; (try dsimp only at hSw); go_simp; (try with_reducible rfl))
                    try simp only [Act.put, List.setIfInBounds_toArray, List.set_cons_zero, List.set_cons_succ]
                    refine wpAnyH_take (i := 29) (oi := { dst := some 140, op := Op.binOp BinOp.sub 3 (Operand.tmp 139) (Operand.const (Value.int IntKind.i64 1)) 3, type := 3, pos := "law.go:84", after := #[{ on := 28, ground := Ground.data }, { on := 23, ground := Ground.guard }], guard := some (23, true) }) (v := ?vh29) rfl (by kernel_rfl) (by kernel_rfl) (by kernel_rfl) (fun _ _ _ h => h) (Or.inl ⟨by rfl, ?hyh29⟩) hHeld ?_
                    case hyh29 => (intro w hSw; (try dsimp only at hSw); go_simp; (try with_reducible rfl))
                    try simp only [Act.put, List.setIfInBounds_toArray, List.set_cons_zero, List.set_cons_succ]
                    refine wpAnyH_ready (rs := [26]) (by kernel_rfl) (by simp) ?_
                    refine AllReadyH.cons (o := { dst := some 137, op := Op.call { callee := Callee.value (Operand.func 21), args := #[Operand.tmp 135, Operand.tmp 136], argTypes := #[26, 3] }, type := 9, pos := "law.go:84", after := #[{ on := 24, ground := Ground.data }, { on := 25, ground := Ground.data }, { on := 23, ground := Ground.chain }, { on := 23, ground := Ground.guard }], guard := some (23, true) }) rfl (fun K hK => ?_) AllReadyH.nil
                    go_simp
                    refine (KN1.out _ (HL.out.below HQ0.out.old)).mono ?_
                    rintro e v1 ⟨rfl, hV⟩
                    have HQ1 := Lib.hid (HQ0.out.below hV)
                    have gS1 := cellSeen HQ1.out k hlt hval
                    clear hV hHeld
                    try go_wp2_with fail
                    refine hK.out _ _ ?_ (fun hHeld => ?_)
                    · exact ⟨HQ1.out.box.1, HQ1.out.box.2.1, HQ1.out.box.2.2.1, HQ1.out.box.2.2.2, HQ1.out.map.1, HQ1.out.map.2.1, HQ1.out.map.2.2.1, HQ1.out.map.2.2.2, HQ1.out.hs, gS1⟩
                    clear hK K
                    try simp only [Act.put, List.setIfInBounds_toArray, List.set_cons_zero, List.set_cons_succ]
                    refine wpAnyH_ready (rs := [30]) (by kernel_rfl) (by simp) ?_
                    refine AllReadyH.cons (o := { dst := some 141, op := Op.call { callee := Callee.value (Operand.func 21), args := #[Operand.tmp 138, Operand.tmp 140], argTypes := #[26, 3] }, type := 9, pos := "law.go:84", after := #[{ on := 27, ground := Ground.data }, { on := 29, ground := Ground.data }, { on := 26, ground := Ground.chain }, { on := 23, ground := Ground.guard }], guard := some (23, true) }) rfl (fun K hK => ?_) AllReadyH.nil
                    go_simp
                    refine (KN0.out _ (HL.out.below HQ1.out.old)).mono ?_
                    rintro e v2 ⟨rfl, hV⟩
                    have HQ2 := Lib.hid (HQ1.out.below hV)
                    have gS2 := cellSeen HQ2.out k hlt hval
                    clear hV hHeld
                    try go_wp2_with fail
                    refine hK.out _ _ ?_ (fun hHeld => ?_)
                    · exact ⟨HQ2.out.box.1, HQ2.out.box.2.1, HQ2.out.box.2.2.1, HQ2.out.box.2.2.2, HQ2.out.map.1, HQ2.out.map.2.1, HQ2.out.map.2.2.1, HQ2.out.map.2.2.2, HQ2.out.hs, gS2⟩
                    clear hK K
                    try simp only [Act.put, List.setIfInBounds_toArray, List.set_cons_zero, List.set_cons_succ]
                    refine wpAnyH_take (i := 31) (oi := { dst := some 142, op := Op.binOp BinOp.eql 9 (Operand.tmp 137) (Operand.tmp 141) 9, type := 4, pos := "law.go:84", after := #[{ on := 26, ground := Ground.data }, { on := 30, ground := Ground.data }, { on := 23, ground := Ground.guard }], guard := some (23, true) }) (v := ?vh31) rfl (by kernel_rfl) (by kernel_rfl) (by kernel_rfl) (fun _ _ _ h => h) (Or.inl ⟨by rfl, ?hyh31⟩) hHeld ?_
                    case hyh31 => (intro w hSw; (try dsimp only at hSw); go_simp; (try with_reducible rfl))
                    try simp only [Act.put, List.setIfInBounds_toArray, List.set_cons_zero, List.set_cons_succ]
                    refine wpAnyH_take (i := 32) (oi := { dst := some 143, op := Op.pick (Operand.tmp 134) (Operand.tmp 142) (Operand.const (Value.bool false)), type := 4, pos := "law.go:84", after := #[{ on := 23, ground := Ground.data }, { on := 31, ground := Ground.data }, { on := 20, ground := Ground.guard }], guard := some (20, false) }) (v := ?vh32) rfl (by kernel_rfl) (by kernel_rfl) (by kernel_rfl) (fun _ _ _ h => h) (Or.inl ⟨by rfl, ?hyh32⟩) hHeld ?_
                    case hyh32 => (intro w hSw; (try dsimp only at hSw); go_simp; (try with_reducible rfl))
                    try simp only [Act.put, List.setIfInBounds_toArray, List.set_cons_zero, List.set_cons_succ]
                    refine wpAnyH_take (i := 33) (oi := { dst := some 144, op := Op.pick (Operand.tmp 131) (Operand.const (Value.bool true)) (Operand.tmp 143), type := 4, pos := "law.go:84", after := #[{ on := 20, ground := Ground.data }, { on := 32, ground := Ground.data }], guard := none }) (v := ?vh33) rfl (by kernel_rfl) (by kernel_rfl) (by kernel_rfl) (fun _ _ _ h => h) (Or.inl ⟨by rfl, ?hyh33⟩) hHeld ?_
                    case hyh33 => (intro w hSw; (try dsimp only at hSw); go_simp; (try with_reducible rfl))
                    try simp only [Act.put, List.setIfInBounds_toArray, List.set_cons_zero, List.set_cons_succ]
                    refine wpAnyH_take (i := 34) (oi := { dst := some 145, op := Op.move (Operand.tmp 144), type := 4, pos := "law.go:84", after := #[{ on := 33, ground := Ground.data }, { on := 30, ground := Ground.chain }], guard := none }) (v := ?vh34) rfl (by kernel_rfl) (by kernel_rfl) (by kernel_rfl) (fun _ _ _ h => h) (Or.inl ⟨by rfl, ?hyh34⟩) hHeld ?_
                    case hyh34 => (intro w hSw; (try dsimp only at hSw); go_simp; (try with_reducible rfl))
                    try simp only [Act.put, List.setIfInBounds_toArray, List.set_cons_zero, List.set_cons_succ]
                    refine wpAnyH_take (i := 35) (oi := { dst := some 146, op := Op.load 26 (Operand.tmp 3), type := 26, pos := "law.go:84", after := #[{ on := 34, ground := Ground.guard }], guard := some (34, false) }) (v := ?vh35) rfl (by kernel_rfl) (by kernel_rfl) (by kernel_rfl) (fun _ _ _ h => h) (Or.inl ⟨by rfl, ?hyh35⟩) hHeld ?_
                    case hyh35 => (intro w hSw; (try dsimp only at hSw); go_simp; (try with_reducible rfl))
                    try simp only [Act.put, List.setIfInBounds_toArray, List.set_cons_zero, List.set_cons_succ]
                    refine wpAnyH_take (i := 36) (oi := { dst := some 147, op := Op.move (Operand.tmp 13), type := 3, pos := "law.go:84", after := #[{ on := 34, ground := Ground.guard }], guard := some (34, false) }) (v := ?vh36) rfl (by kernel_rfl) (by kernel_rfl) (by kernel_rfl) (fun _ _ _ h => h) (Or.inl ⟨by rfl, ?hyh36⟩) hHeld ?_
                    case hyh36 => (intro w hSw; (try dsimp only at hSw); go_simp; (try with_reducible rfl))
                    try simp only [Act.put, List.setIfInBounds_toArray, List.set_cons_zero, List.set_cons_succ]
                    refine wpAnyH_ready (rs := [37]) (by kernel_rfl) (by simp) ?_
                    refine AllReadyH.cons (o := { dst := some 148, op := Op.call { callee := Callee.value (Operand.func 21), args := #[Operand.tmp 146, Operand.tmp 147], argTypes := #[26, 3] }, type := 9, pos := "law.go:84", after := #[{ on := 35, ground := Ground.data }, { on := 36, ground := Ground.data }, { on := 34, ground := Ground.chain }, { on := 34, ground := Ground.guard }], guard := some (34, false) }) rfl (fun K hK => ?_) AllReadyH.nil
                    go_simp
                    refine (KN1.out _ (HL.out.below HQ2.out.old)).mono ?_
                    rintro e v3 ⟨rfl, hV⟩
                    have HQ3 := Lib.hid (HQ2.out.below hV)
                    have gS3 := cellSeen HQ3.out k hlt hval
                    clear hV hHeld
                    try go_wp2_with fail
                    refine hK.out _ _ ?_ (fun hHeld => ?_)
                    · exact ⟨HQ3.out.box.1, HQ3.out.box.2.1, HQ3.out.box.2.2.1, HQ3.out.box.2.2.2, HQ3.out.map.1, HQ3.out.map.2.1, HQ3.out.map.2.2.1, HQ3.out.map.2.2.2, HQ3.out.hs, gS3⟩
                    clear hK K
                    try simp only [Act.put, List.setIfInBounds_toArray, List.set_cons_zero, List.set_cons_succ]
                    refine wpAnyH_take (i := 38) (oi := { dst := some 149, op := Op.binOp BinOp.eql 9 (Operand.tmp 148) (Operand.const (Value.string { data := #[] })) 9, type := 4, pos := "law.go:84", after := #[{ on := 37, ground := Ground.data }, { on := 34, ground := Ground.guard }], guard := some (34, false) }) (v := ?vh38) rfl (by kernel_rfl) (by kernel_rfl) (by kernel_rfl) (fun _ _ _ h => h) (Or.inl ⟨by rfl, ?hyh38⟩) hHeld ?_
                    case hyh38 => (intro w hSw; (try dsimp only at hSw); go_simp; (try with_reducible rfl))
                    try simp only [Act.put, List.setIfInBounds_toArray, List.set_cons_zero, List.set_cons_succ]
                    refine wpAnyH_take (i := 39) (oi := { dst := some 150, op := Op.pick (Operand.tmp 145) (Operand.const (Value.bool true)) (Operand.tmp 149), type := 4, pos := "law.go:84", after := #[{ on := 34, ground := Ground.data }, { on := 38, ground := Ground.data }], guard := none }) (v := ?vh39) rfl (by kernel_rfl) (by kernel_rfl) (by kernel_rfl) (fun _ _ _ h => h) (Or.inl ⟨by rfl, ?hyh39⟩) hHeld ?_
                    case hyh39 => (intro w hSw; (try dsimp only at hSw); go_simp; (try with_reducible rfl))
                    try simp only [Act.put, List.setIfInBounds_toArray, List.set_cons_zero, List.set_cons_succ]
                    refine wpAnyH_done (by kernel_rfl) ?_ _
                    clear hHeld
                    clear d1 d2 d3 d4 hw1 hq
                    clear gS0 gS1 gS2 gS3
                    obtain ⟨x0, x1, x2, x3, m0, m1, m2, m3⟩ := HQ3.out.two
                    go_wp2_with fail
                    go_roundw
                    case rel => exact ⟨k + 1, by first | rfl | go_num, by omega, HQ3⟩
                    case measure => simp [intOf]; omega
                · go_wp2_with fail
                  go_ret
                  exact ⟨rfl, HA.out.old⟩
theorem placeApart_c (a b c d : Int) (w : World) (hL : Laid4 w) :
    Calls Tryd.prog 5 #[.agg #[.int .i64 a, .int .i64 b, .int .i64 c, .int .i64 d]] w fun e w' => e = .returned (.bool true) ∧ Below w.heap.size w w' := by
  by_cases hr : Right a b c d
  · by_cases hbig : 30 < a
    · exact placeApart_big a b c d hr hbig w hL
    · exact placeApart_right a b c d hr hbig w hL
  · exact placeApart_wrong a b c d hr w hL
end Go.Proofs.YtcgnfloinmmaoaaDoor
