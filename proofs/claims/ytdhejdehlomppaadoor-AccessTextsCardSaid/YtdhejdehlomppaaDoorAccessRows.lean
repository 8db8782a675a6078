/- A slice of accesses in memory; package access's Rows of at most 40 accesses; the document's Texts of two rows of texts that are alike; the laws' own first look (awake). -/
import Derived.Test.YtdhejdehlomppaaDoorAccessRef
namespace Go.Proofs.YtdhejdehlomppaaDoor
open Go Go.RowKit
set_option maxRecDepth 100000
attribute [local go_sem ↓] Go.wp_at_zero Go.wp_at_succ

/-- The numbers of an access. -/
structure Acc where
  k : Int
  i : Int
  x : Nat
  y : Nat
  o : Nat
def Acc.ok (q : Acc) : Prop := q.x < 18446744073709551616 ∧ q.y < 18446744073709551616 ∧ q.o < 18446744073709551616
/-- The five cells of an access. -/
def CellsAt (w : World) (b off : Nat) (q : Acc) : Prop :=
  w.cell? ⟨b, off, none⟩ = some (.int .i64 q.k) ∧ w.cell? ⟨b, off + 1, none⟩ = some (.int .i64 q.i) ∧ w.cell? ⟨b, off + 2, none⟩ = some (.int .u64 q.x) ∧ w.cell? ⟨b, off + 3, none⟩ = some (.int .u64 q.y) ∧ w.cell? ⟨b, off + 4, none⟩ = some (.int .u64 q.o)
theorem CellsAt.below {w w' : World} {b off : Nat} {q : Acc} (h : CellsAt w b off q) (hb : Below w.heap.size w w') : CellsAt w' b off q := by
  have h2 := lt_of_cell h.1
  have key : ∀ z, w'.cell? ⟨b, z, none⟩ = w.cell? ⟨b, z, none⟩ := fun z => hb.cell (p := ⟨b, z, none⟩) h2
  obtain ⟨c0, c1, c2, c3, c4⟩ := h
  exact ⟨(key _).trans c0, (key _).trans c1, (key _).trans c2, (key _).trans c3, (key _).trans c4⟩
/-- What a slice value of accesses holds, in a world. -/
def AccsAt (w : World) (a : Option Addr) (n : Nat) (g : Nat → Acc) : Prop :=
  n = 0 ∨ ∃ b off, a = some ⟨b, off, none⟩ ∧ b < w.heap.size ∧ ∀ j, j < n → CellsAt w b (off + j * 5) (g j)
theorem AccsAt.below {w w' : World} {a : Option Addr} {n : Nat} {g : Nat → Acc} (h : AccsAt w a n g) (hb : Below w.heap.size w w') : AccsAt w' a n g := by
  rcases h with h | ⟨b, off, h1, h2, h3⟩
  · exact .inl h
  · exact .inr ⟨b, off, h1, by have := hb.size; omega, fun j hj => (h3 j hj).below hb⟩
theorem AccsAt.at' {w : World} {a : Option Addr} {n : Nat} {g : Nat → Acc} (h : AccsAt w a n g) {j : Nat} (hj : j < n) : ∃ b off, a = some ⟨b, off, none⟩ ∧ b < w.heap.size ∧ CellsAt w b (off + j * 5) (g j) := by
  rcases h with h | ⟨b, off, h1, h2, h3⟩
  · omega
  · exact ⟨b, off, h1, h2, h3 j hj⟩
/-- An access's text; the texts of those that have one. -/
def txt (a b c d : Int) (q : Acc) : List UInt8 := textF a b c d q.k q.i q.x q.y q.o
def rowsT (T : Nat → List UInt8) : Nat → List (List UInt8)
  | 0 => []
  | i + 1 => if T i = [] then rowsT T i else rowsT T i ++ [T i]
theorem rowsT_len (T : Nat → List UInt8) (i : Nat) : (rowsT T i).length ≤ i := by
  induction i with
  | zero => simp [rowsT]
  | succ i ih =>
    unfold rowsT
    split
    · omega
    · rw [List.length_append]; simp; omega
/-- A slice of texts. -/
def StrsAt (w : World) (v : Value) (l : List (List UInt8)) : Prop :=
  ∃ ad cap, v = .slice ad l.length cap ∧ (l.length = 0 ∨ ∃ g, ad = some ⟨g, 0, none⟩ ∧ g < w.heap.size ∧ ∀ (j : Nat) (s : List UInt8), l[j]? = some s → w.cell? ⟨g, j, none⟩ = some (strV s))
theorem StrsAt.below {w w' : World} {v : Value} {l : List (List UInt8)} (h : StrsAt w v l) (hb : Below w.heap.size w w') : StrsAt w' v l := by
  obtain ⟨ad, cap, rfl, h | ⟨g, rfl, hg, hc⟩⟩ := h
  · exact ⟨ad, cap, rfl, .inl h⟩
  · exact ⟨_, cap, rfl, .inr ⟨g, rfl, by have := hb.size; omega, fun j s hs => (hb.cell (p := ⟨g, j, none⟩) hg).trans (hc j s hs)⟩⟩
/-- A row of texts of one's own, that grows. -/
structure Strs (base : Nat) (w wr : World) (v : Value) (N : Nat) (l : List (List UInt8)) : Prop where
  len : l.length = N
  row : wr.ownsRow base 9 1 v N (l.map strV)
  old : Below w.heap.size w wr
  low : w.heap.size ≤ base
theorem Strs.below {base : Nat} {w wr w1 : World} {v : Value} {N : Nat} {l : List (List UInt8)} (h : Strs base w wr v N l) (hb : Below wr.heap.size wr w1) : Strs base w w1 v N l :=
  ⟨h.len, ownsRow_below4 h.row hb, belowOn h.old hb, h.low⟩
theorem Strs.far {base : Nat} {w wr w2 : World} {v : Value} {N : Nat} {l : List (List UInt8)} (h : Strs base w wr v N l) (ob : Obj) (hg : (wr.alloc ob).grownBy w2 v.ownBlock) {p : Addr} (hp : p.block < base) (hw : p.block < wr.heap.size) : w2.cell? p = wr.cell? p := by
  rw [hg.cell_far p (by simp; omega) (fun e => by have := (h.row.lt _ e.symm).1; omega)]
  exact (below_new wr ob).cell hw
theorem Strs.add {base : Nat} {w wr w2 : World} {v : Value} {N g cap : Nat} {l : List (List UInt8)} {s : List UInt8} (h : Strs base w wr v N l) (ob : Obj) (hg : (wr.alloc ob).grownBy w2 v.ownBlock) (hb : base ≤ wr.heap.size)
    (hown : w2.ownsRow base 9 1 (.slice (some ⟨g, 0, none⟩) (N + 1) cap) (N + 1) (l.map strV ++ [strV s])) : Strs base w w2 (.slice (some ⟨g, 0, none⟩) (N + 1) cap) (N + 1) (l ++ [s]) :=
  have hl := h.low
  ⟨by rw [List.length_append, h.len]; rfl, by rw [List.map_append]; exact hown, (below_on h.old ob).grown hg (by simp; omega) (fun j e => by have := (h.row.lt j e).1; omega), h.low⟩
theorem Strs.strs {base : Nat} {w wr : World} {v : Value} {N : Nat} {l : List (List UInt8)} (h : Strs base w wr v N l) : StrsAt wr v l := by
  have hO := h.row
  have hlen := h.len
  by_cases h0 : N = 0
  · subst h0
    obtain ⟨_, ⟨rfl, hn⟩ | ⟨g, cap, cur, rfl, hb, hg, _⟩⟩ := hO
    · exact ⟨none, 0, by rw [hlen], .inl hlen⟩
    · exact ⟨_, cap, by rw [hlen], .inl hlen⟩
  · obtain ⟨g, cp, rfl, hg, hgl⟩ := hO.form (by omega)
    refine ⟨_, cp, by rw [hlen], .inr ⟨g, rfl, hgl, fun j s hs => ?_⟩⟩
    have := hO.cells rfl j (strV s) (by rw [List.getElem?_map, hs]; rfl)
    rw [Addr.add_lit, Nat.zero_add] at this
    exact this
/-- What Rows answers. -/
def RowsPost (w : World) (l : List (List UInt8)) (e : Ending) (w' : World) : Prop := ∃ v, e = .returned v ∧ StrsAt w' v l ∧ Below w.heap.size w w'
theorem box_far {base : Nat} {w wr w2 : World} {v : Value} {N : Nat} {l : List (List UInt8)} (h : Strs base w wr v N l) (ob : Obj) (hg : (wr.alloc ob).grownBy w2 v.ownBlock) {B : Nat} {a b c d : Int} (hB : B < base) (hX : BoxAt wr B a b c d) : BoxAt w2 B a b c d := by
  have hl := lt_of_cell hX.1
  have k : ∀ j, w2.cell? ⟨B, j, none⟩ = wr.cell? ⟨B, j, none⟩ := fun j => h.far ob hg (p := ⟨B, j, none⟩) hB hl
  exact ⟨(k _).trans hX.1, (k _).trans hX.2.1, (k _).trans hX.2.2.1, (k _).trans hX.2.2.2⟩
set_option maxHeartbeats 6400000 in
theorem Rows_c (a b c d : Int) (ad : Option Addr) (n cap : Nat) (g : Nat → Acc) (hn : n ≤ 40) (hok : ∀ j, j < n → (g j).ok) (w : World) (hL : Laid6 w) (hA : AccsAt w ad n g) :
    Calls Tryd.prog 11 #[.agg #[.int .i64 a, .int .i64 b, .int .i64 c, .int .i64 d], .slice ad n cap] w (RowsPost w (rowsT (fun j => txt a b c d (g j)) n)) := by
  obtain ⟨i9, hi9, hz0, hz1, hz2⟩ := info_parts infoString4
  have HOK := Lib.hid hok; have HL := Lib.hid hL; have HA := Lib.hid hA
  have HX0 := Lib.hid (BoxAt.new w a b c d 27)
  have HS0 : Hid (Strs (w.heap.size + 1) w (w.alloc (.cells #[.int .i64 a, .int .i64 b, .int .i64 c, .int .i64 d] 27)) (.slice none 0 0) 0 []) := Lib.hid ⟨rfl, World.ownsRow_nil _ _ _ _, below_new _ _, by omega⟩
  have HT : Hid (∀ j, txt a b c d (g j) = (fun j => txt a b c d (g j)) j) := Lib.hid (fun _ => rfl)
  generalize (fun j => txt a b c d (g j)) = T at *
  clear hok hL hA
  go_enter Tryd.func11, Tryd.ntmps11
  go_wp2_with fail
  go_loopw [5, 11] (fun v vi wr => ∃ i N : Nat, vi = .int .i64 i ∧ i ≤ n ∧ N ≤ i ∧ Hid (Strs (w.heap.size + 1) w wr v N (rowsT T i)) ∧ Hid (BoxAt wr w.heap.size a b c d)) (fun _ vi _ => n - (intOf vi).toNat)
  case atStart => exact ⟨0, 0, rfl, by omega, by omega, HS0, HX0⟩
  case round =>
    clear HS0 HX0
    obtain ⟨i, N, rfl, hi, hN, HS, HX⟩ := hrel
    by_cases hlt : i < n
    · obtain ⟨b2, off, rfl, hb2, hc⟩ := (HA.out.below HS.out.old).at' hlt
      obtain ⟨hx, hy, ho⟩ := HOK.out i hlt
      have hTi := HT.out i
      have HRT : Hid (rowsT T (i + 1) = if T i = [] then rowsT T i else rowsT T i ++ [T i]) := Lib.hid rfl
      unfold txt at hTi
      generalize g i = q at hc hx hy ho hTi
      obtain ⟨qk, qi, qx, qy, qo⟩ := q
      simp only at hx hy ho hTi
      obtain ⟨c0, c1, c2, c3, c4⟩ := hc
      simp only at c0 c1 c2 c3 c4
      obtain ⟨x0, x1, x2, x3⟩ := HX.out
      have hl0 : w.heap.size < wr.heap.size := lt_of_cell x0
      have hne0 : w.heap.size ≠ wr.heap.size := by omega
      have hbn := below_new wr (.cells #[.int .i64 qk, .int .i64 qi, .int .u64 qx, .int .u64 qy, .int .u64 qo] 33)
      have hTx := Text_c a b c d qk qi qx qy qo hx hy ho _ ((HL.out.below HS.out.old).below hbn)
      have HS1 := Lib.hid (HS.out.below hbn)
      have HX1 := Lib.hid (HX.out.below hbn)
      rw [hTi] at hTx
      generalize T i = tx at hTx HRT hTi
      clear hTi hbn hx hy ho HS HX
      by_cases hnil : tx = []
      · subst hnil
        rw [if_pos rfl] at HRT
        have HTx := Lib.hid hTx
        clear hTx
        go_wp2_with fail
        refine HTx.out.mono ?_
        rintro e w1 ⟨rfl, hW⟩
        have HS2 := Lib.hid (HS1.out.below hW)
        have HX2 := Lib.hid (HX1.out.below hW)
        rw [← HRT.out] at HS2
        clear hW HS1 HX1 HTx HRT c0 c1 c2 c3 c4 x0 x1 x2 x3
        go_wp2_with fail
        go_roundw
        case rel => exact ⟨i + 1, N, by go_num, by omega, by omega, HS2, HX2⟩
        case measure => simp [intOf]; omega
      · rw [if_neg hnil] at HRT
        have hq : (tx == []) = false := by simpa using hnil
        have hq2 : (tx != []) = true := by simpa using hnil
        have HTx := Lib.hid hTx
        clear hTx hnil
        go_wp2_with fail
        refine HTx.out.mono ?_
        rintro e w1 ⟨rfl, hW⟩
        have HS2 := Lib.hid (HS1.out.below hW)
        have HX2 := Lib.hid (HX1.out.below hW)
        have hO := HS2.out.row
        have hm1 : w.heap.size + 1 ≤ w1.heap.size := lt_of_cell HX2.out.1
        clear hW HS1 HX1 HTx c0 c1 c2 c3 c4 x0 x1 x2 x3
        go_wp2_with (at_builtin; refine wpList_append_lies _ (by rfl) _ _ _ (by rfl) (w.heap.size + 1) 9 i9 _ 1 16 Tryd.underlying28 hi9 hz0 hz1 hz2 rfl (by omega) u5 N _ (by rfl) (hO.alloc _) ⟨w1.heap.size, 0, none⟩ 1 1 [.string ⟨tx.toArray⟩] (by rfl) (by rfl) (World.news_of_block (cs := #[.string ⟨tx.toArray⟩]) (t := 9) (fr := (0, 0)) (heap_alloc_new w1 _)) (by simp [Value.oneCell']) (by omega) (by unfold maxLen; omega) (by omega) (by simp; omega) (w1.heap.size + 1) (by simp) ?_; intro gg cap' w2 hown1 hgrow hat hlt2)
        have HS3 := Lib.hid (HS2.out.add _ hgrow hm1 hown1)
        have HX3 := Lib.hid (box_far HS2.out _ hgrow (by omega) HX2.out)
        rw [← HRT.out] at HS3
        clear hown1 hgrow hat hlt2 hO HS2 HX2 HRT hq hq2
        go_roundw
        case rel => exact ⟨i + 1, N + 1, by go_num, by omega, by omega, HS3, HX3⟩
        case measure => simp [intOf]; omega
    · obtain rfl : i = n := by omega
      have HF := Lib.hid HS.out.strs
      have HB := Lib.hid HS.out.old
      clear HS HX
      go_wp2_with fail
      go_ret
      exact ⟨_, rfl, HF.out, HB.out⟩
set_option maxHeartbeats 3200000 in
theorem Texts_c (l : List (List UInt8)) (hl : l.length ≤ 40) (v1 v2 : Value) (w : World) (h1 : StrsAt w v1 l) (h2 : StrsAt w v2 l) :
    Calls Tryd.prog 10 #[v1, v2] w fun e w' => e = .returned (.bool true) ∧ Below w.heap.size w w' := by
  obtain ⟨a1, c1, rfl, h1⟩ := h1
  obtain ⟨a2, c2, rfl, h2⟩ := h2
  have H1 := Lib.hid h1; have H2 := Lib.hid h2
  clear h1 h2
  obtain ⟨n, hn⟩ : ∃ n, l.length = n := ⟨_, rfl⟩
  have HN := Lib.hid hn
  rw [hn] at H1 H2 hl ⊢
  clear hn
  go_enter Tryd.func10, Tryd.ntmps10
  go_wp2_with fail
  go_loopw [5] (fun vi wr => ∃ i : Nat, vi = .int .i64 i ∧ i ≤ n ∧ Hid (Below w.heap.size w wr)) (fun vi _ => n - (intOf vi).toNat)
  case atStart => exact ⟨0, rfl, by omega, Lib.hid (Below.refl _ _)⟩
  case round =>
    obtain ⟨i, rfl, hi, HB⟩ := hrel
    by_cases hlt : i < n
    · obtain ⟨g1, rfl, hg1, k1⟩ := H1.out.resolve_left (by omega)
      obtain ⟨g2, rfl, hg2, k2⟩ := H2.out.resolve_left (by omega)
      obtain ⟨s, hs⟩ : ∃ s, l[i]? = some s := ⟨_, List.getElem?_eq_getElem (by have := HN.out; omega)⟩
      have e1 := (HB.out.cell (p := ⟨g1, i, none⟩) hg1).trans (k1 i s hs)
      have e2 := (HB.out.cell (p := ⟨g2, i, none⟩) hg2).trans (k2 i s hs)
      unfold strV at e1 e2
      clear k1 k2 hs hg1 hg2
      go_wp2_with fail
      go_region_held3 (fun w' => w'.cell? ⟨g1, i, none⟩ = some (.string ⟨s.toArray⟩) ∧ w'.cell? ⟨g2, i, none⟩ = some (.string ⟨s.toArray⟩)) (first | assumption | go_keep) (fail)
      all_goals
        have HB' : Hid (Below w.heap.size w wr.drew) := Lib.hid HB.out.drew
        clear HB e1 e2
        go_wp2_with fail
        go_roundw
        case rel => exact ⟨i + 1, by go_num, by omega, HB'⟩
        case measure => simp [intOf]; omega
    · obtain rfl : i = n := by omega
      go_wp2_with fail
      go_ret
      exact ⟨rfl, HB.out⟩
/- awake -/
theorem textB_1 : textB 1 = [35, 48] := by unfold textB markB; rw [Lib.decDigits_one (by decide)]; rfl
theorem awake_text : textF 2 1 1 0 1 0 0 0 1 = [108, 111, 97, 100, 32, 102, 114, 101, 101, 32, 119, 97, 115, 32, 35, 48] := by
  unfold textF
  rw [if_pos (by decide)]
  unfold accT accL
  rw [textB_1]
  decide
theorem awake6_c (w : World) (hL : Laid6 w) :
    Calls Tryd.prog 6 #[] w fun e w' => e = .returned (.bool true) ∧ Below w.heap.size w w' := by
  have hb := below_new w (.cells #[.int .i64 2, .int .i64 1, .int .i64 1, .int .i64 0] 27)
  have hT := Text_c 2 1 1 0 1 0 0 0 1 (by decide) (by decide) (by decide) _ (hL.below hb)
  rw [awake_text] at hT
  have HT : Hid (Calls Tryd.prog 8 #[.agg #[.int .i64 2, .int .i64 1, .int .i64 1, .int .i64 0], .agg #[.int .i64 1, .int .i64 0, .int .u64 0, .int .u64 0, .int .u64 1]] (w.alloc (.cells #[.int .i64 2, .int .i64 1, .int .i64 1, .int .i64 0] 27)) fun e w' => e = .returned (.string ⟨#[108, 111, 97, 100, 32, 102, 114, 101, 101, 32, 119, 97, 115, 32, 35, 48]⟩) ∧ Below (w.alloc (.cells #[.int .i64 2, .int .i64 1, .int .i64 1, .int .i64 0] 27)).heap.size (w.alloc (.cells #[.int .i64 2, .int .i64 1, .int .i64 1, .int .i64 0] 27)) w') := Lib.hid hT
  have HB := Lib.hid hb
  clear hT hb hL
  go_enter Tryd.func6, Tryd.ntmps6
  go_wp2_with fail
  refine HT.out.mono ?_
  rintro e W ⟨rfl, hW⟩
  have HB1 := Lib.hid (belowOn HB.out hW)
  clear hW
  go_wp2_with fail
  go_ret
  exact ⟨rfl, HB1.out⟩
end Go.Proofs.YtdhejdehlomppaaDoor
