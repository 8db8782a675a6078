/- Package op's Text, for every operation whose numbers are int's: its text; empty of a kind that is none, and if one of the numbers that it has is below 0. -/
import Derived.Test.YtaiioflhkmflgaaDoorOpCheck
import Derived.Test.YtaiioflhkmflgaaDoorRegionR
import Derived.Test.YtaiioflhkmflgaaDoorShelfA
import Derived.Test.YtaiioflhkmflgaaDoorDigits
import Derived.Deep.AppendLies
import Derived.Deep.RegionHeld3
import Derived.Deep.DrawnRows
import Derived.OwnWalk
import Derived.WalkSpells
import Derived.Lib.AppendIntMem
import Derived.Lib.ItoaLen
namespace Go.Proofs.YtaiioflhkmflgaaDoor
open Go Go.RowKit Go.Shelf
attribute [local go_sem] Oper.semAt_some
set_option maxRecDepth 100000

/-- What Text reads of the listed variables. -/
structure LaidT (w : World) : Prop where
  rows : RowsAt w
  pow : Lib.TabIs Tryd.prog w "internal/strconv.uint64pow10" .u64 Lib.pow10Tab
theorem LaidT.below {w w' : World} (h : LaidT w) (hb : Below w.heap.size w w') : LaidT w' := ⟨h.rows.below hb, Lib.tabBelow_of_tabIs h.pow w' hb⟩
def inI (x : Int) : Prop := -9223372036854775808 ≤ x ∧ x ≤ 9223372036854775807
def strV (l : List UInt8) : Value := .string ⟨l.toArray⟩
def wordsN (ps : List (Int × Int)) : List (List UInt8) := ps.map fun p => Lib.itoa p.2
/-- The words of an operation's text, and the text. -/
def textL (k a b c : Int) : List (List UInt8) := nmL k.toNat :: wordsN (nums k a b c)
def okT (k a b c : Int) : Prop := okK k ∧ ∀ p ∈ nums k a b c, 0 ≤ p.2
instance (k a b c : Int) : Decidable (okT k a b c) := by unfold okT; exact inferInstance
def textF (k a b c : Int) : List UInt8 := if okT k a b c then Lib.join (textL k a b c) [32] else []
theorem ownsRow_below4 {w w' : World} {base : Nat} {e : TypeId} {size : Nat} {v : Value} {n : Nat} {xs : List Value} (h : w.ownsRow base e size v n xs) (hb : Below w.heap.size w w') : w'.ownsRow base e size v n xs :=
  h.kept (row := none) ⟨hb.os, hb.tape, hb.output, hb.size, fun k hk _ => hb.block k hk⟩ (by cases h' : v.ownBlock with | none => exact .inl rfl | some x => exact .inr (by simp))
theorem row_own {W W' : World} {row : Option Nat} {base : Nat} {e : TypeId} {v : Value} {n : Nat} {xs : List Value} (h : W.ownsRow base e 1 v n xs) (hg : W.grownBy W' row) (hr : ∀ r, row = some r → ∃ o : Obj, W.heap[r]? = some o ∧ o.isCells = false) : W'.ownsRow base e 1 v n xs := by
  refine h.kept hg ?_
  rcases h.2 with ⟨rfl, _⟩ | ⟨g, cap, cur, rfl, _, hgb, _⟩
  · exact .inl rfl
  · refine .inr fun e' => ?_
    obtain ⟨o, ho, hc⟩ := hr g (by simpa [Value.ownBlock] using e'.symm)
    rw [hgb] at ho; cases ho; cases hc
theorem row_cells {W : World} {base : Nat} {e : TypeId} {v : Value} {n : Nat} {xs : List Value} (h : W.ownsRow base e 1 v n xs) : ∀ j, v.ownBlock = some j → ∃ c fz, W.heap[j]? = some (.cells c e fz) := by
  intro j hj
  rcases h.2 with ⟨rfl, _⟩ | ⟨g, cap, cur, rfl, _, hgb, _⟩
  · simp [Value.ownBlock] at hj
  · simp [Value.ownBlock] at hj
    subst hj
    exact ⟨_, _, hgb⟩
open Go.Sort Go.Lib in
theorem grow_below4 (w : World) (k : Nat) (os : Array Obj) : Below w.heap.size w (grow (w.drewN k) os) := below_grow _ _ (Nat.le_refl _) _ _
theorem itoa_c (n : Int) (h : inI n) (w : World) (hL : LaidT w) :
    Calls Tryd.prog 29 #[.int .i64 n] w fun e w' => e = .returned (.string ⟨(Lib.itoa n).toArray⟩) ∧ Below w.heap.size w w' :=
  (Tryd.strconv_Itoa n h.1 h.2 w hL.pow).mono fun _ _ ⟨he, k, os, hw⟩ => ⟨he, hw ▸ grow_below4 w k os⟩
theorem infoString : (Tryd.prog.info? 9).map (fun i => (i.zero, i.size, i.bytes)) = some (some (.string ByteArray.empty), 1, 16) := by kernel_rfl
/-- Text's own memory: the result, the parts so far. -/
structure TxtAt (w W : World) (v : Value) (l : List (List UInt8)) : Prop where
  row : W.ownsRow (w.heap.size + 2) 9 1 v l.length (l.map strV)
  cell : W.cell? ⟨w.heap.size + 3, 0, none⟩ = some v
  free : W.frozen? ⟨w.heap.size + 3, 0, none⟩ = false
  res : W.cell? ⟨w.heap.size + 1, 0, none⟩ = some (.string ⟨#[]⟩)
  rfree : W.frozen? ⟨w.heap.size + 1, 0, none⟩ = false
  old : Below w.heap.size w W
  ne : v.ownBlock ≠ some (w.heap.size + 3)
theorem TxtAt.on {w W W' : World} {v : Value} {l : List (List UInt8)} (h : TxtAt w W v l) (hb : Below W.heap.size W W') : TxtAt w W' v l :=
  ⟨ownsRow_below4 h.row hb, (hb.cell (p := ⟨_, 0, none⟩) (lt_of_cell h.cell)).trans h.cell, (hb.frozen (p := ⟨_, 0, none⟩) (lt_of_cell h.cell)).trans h.free, (hb.cell (p := ⟨_, 0, none⟩) (lt_of_cell h.res)).trans h.res, (hb.frozen (p := ⟨_, 0, none⟩) (lt_of_cell h.res)).trans h.rfree, belowOn h.old hb, h.ne⟩
theorem TxtAt.own {w A A' : World} {row : Option Nat} {v : Value} {l : List (List UInt8)} (h : TxtAt w A v l) (hg : A.grownBy A' row) (hr : ∀ r, row = some r → w.heap.size ≤ r ∧ ∃ o : Obj, A.heap[r]? = some o ∧ o.isCells = false) : TxtAt w A' v l :=
  have hr' : ∀ r, row = some r → ∃ o : Obj, A.heap[r]? = some o ∧ o.isCells = false := fun r e => (hr r e).2
  ⟨row_own h.row hg hr', cell_kept h.cell hg hr', (frozen_kept h.cell hg hr').trans h.free, cell_kept h.res hg hr', (frozen_kept h.res hg hr').trans h.rfree, h.old.grown hg h.old.size (fun k e => (hr k e).1), h.ne⟩
/-- Behind the append, ahead of the store. -/
structure TxtNew (w W : World) (v v' : Value) (l : List (List UInt8)) : Prop where
  row : W.ownsRow (w.heap.size + 2) 9 1 v' l.length (l.map strV)
  cell2 : W.cell? ⟨w.heap.size + 3, 0, none⟩ = some v
  free2 : W.frozen? ⟨w.heap.size + 3, 0, none⟩ = false
  res : W.cell? ⟨w.heap.size + 1, 0, none⟩ = some (.string ⟨#[]⟩)
  rfree : W.frozen? ⟨w.heap.size + 1, 0, none⟩ = false
  old : Below w.heap.size w W
  ne : v'.ownBlock ≠ some (w.heap.size + 3)
theorem TxtAt.add {w W W2 : World} {v : Value} {l : List (List UInt8)} {s : List UInt8} {g cap : Nat} (h : TxtAt w W v l)
    (hown : W2.ownsRow (w.heap.size + 2) 9 1 (.slice (some ⟨g, 0, none⟩) (l.length + 1) cap) (l.length + 1) (l.map strV ++ [.string ⟨s.toArray⟩])) (hg : W.grownBy W2 v.ownBlock) (hat : v.ownBlock = some g ∨ g = W.heap.size) :
    TxtNew w W2 v (.slice (some ⟨g, 0, none⟩) (l.length + 1) cap) (l ++ [s]) := by
  have n1 : some (w.heap.size + 1) ≠ v.ownBlock := fun e => by have := (h.row.lt _ e.symm).1; omega
  have n3 : some (w.heap.size + 3) ≠ v.ownBlock := fun e => h.ne e.symm
  have l3 := lt_of_cell h.cell
  have l1 := lt_of_cell h.res
  refine ⟨?_, (World.cell?_of_block (hg.block _ l3 n3)).trans h.cell, (World.frozen?_of_block (hg.block _ l3 n3)).trans h.free, (World.cell?_of_block (hg.block _ l1 n1)).trans h.res, (World.frozen?_of_block (hg.block _ l1 n1)).trans h.rfree, h.old.grown hg h.old.size (fun k e => by have := (h.row.lt k e).1; omega), ?_⟩
  · rw [List.length_append, List.map_append]; exact hown
  · intro e
    have eg : g = w.heap.size + 3 := by simpa [Value.ownBlock] using e
    rcases hat with hat | hat
    · exact h.ne (hat.trans (by rw [eg]))
    · omega
theorem TxtAt.keeps {w W W2 : World} {v : Value} {l : List (List UInt8)} {B : Nat} (h : TxtAt w W v l) (hg : W.grownBy W2 v.ownBlock) : KeepsTop 9 B W W2 := KeepsTop.of_row hg (row_cells h.row)
theorem TxtNew.done {w W : World} {v v' : Value} {l : List (List UInt8)} (h : TxtNew w W v v' l) : TxtAt w (W.setCell ⟨w.heap.size + 3, 0, none⟩ v') v' l := by
  refine ⟨h.row.kept (grownBy_setCell' W _ _) ?_, World.cell?_setCell_same' W _ _ (by rw [h.cell2]; rfl), by rw [World.frozen?_setCell]; exact h.free2, ?_, by rw [World.frozen?_setCell]; exact h.rfree, h.old.setCell (p := ⟨w.heap.size + 3, 0, none⟩) (by simp) _, h.ne⟩
  · exact .inr h.ne
  · rw [World.cell?_setCell_other _ _ _ _ (by simp)]; exact h.res
theorem nmL_short (m : Nat) : (nmL m).length ≤ 6 := by
  unfold nmL
  split <;> decide
theorem itoa_short (n : Int) (h0 : 0 ≤ n) (h1 : n ≤ 9223372036854775807) : (Lib.itoa n).length ≤ 20 := by
  unfold Lib.itoa
  rw [if_neg (by omega), Lib.decDigits_length]
  exact Lib.nDigits_le20 _ (by omega)
theorem text_short (nm : List UInt8) (ps : List (Int × Int)) (hn : nm.length ≤ 6) (hl : ps.length ≤ 3) (h0 : ∀ p ∈ ps, 0 ≤ p.2) (h1 : ∀ p ∈ ps, inI p.2) : (Lib.join (nm :: wordsN ps) [32]).length ≤ 100 := by
  have key : ∀ p ∈ ps, (Lib.itoa p.2).length ≤ 20 := fun p hp => itoa_short _ (h0 p hp) (h1 p hp).2
  unfold wordsN
  match ps, hl, key with
  | [], _, _ => rw [Lib.join_length]; simp [Lib.lens]; omega
  | [x], _, key => have e1 := key x (by simp); rw [Lib.join_length]; simp [Lib.lens]; omega
  | [x, y], _, key => have e1 := key x (by simp); have e2 := key y (by simp); rw [Lib.join_length]; simp [Lib.lens]; omega
  | [x, y, z], _, key => have e1 := key x (by simp); have e2 := key y (by simp); have e3 := key z (by simp); rw [Lib.join_length]; simp [Lib.lens]; omega
theorem text_notKind (k a b c : Int) (hk : ¬ okK k) (w : World) :
    Calls Tryd.prog 16 #[.agg #[.int .i64 k, .int .i64 a, .int .i64 b, .int .i64 c]] w fun e w' => e = .returned (.string ⟨#[]⟩) ∧ Below w.heap.size w w' := by
  have HK := Lib.hid (isKind_no k hk)
  have HB := Lib.hid (below_on (below_new w (.cells #[.int .i64 k, .int .i64 a, .int .i64 b, .int .i64 c] 25)) (.cells #[.string ByteArray.empty] 9))
  clear hk
  go_enter Tryd.func16, Tryd.ntmps16
  go_wp2_with fail
  refine (HK.out _).mono ?_
  rintro e W ⟨rfl, rfl⟩
  go_wp2_with fail
  refine bodyPost_ret (v := .string ⟨#[]⟩) (by simp [results, Tryd.f16, go_sem]) rfl ?_
  exact ⟨rfl, below_on (below_new _ _) _⟩
/-- The memory at the beginning of Text. -/
theorem TxtAt.first (w W : World) (nm : List UInt8) (v1 : Value) (hv : v1 = .slice (some ⟨W.heap.size, 0, none⟩) 1 1) (hz : W.heap.size = w.heap.size + 2) (hB : Below w.heap.size w W) (hr : W.cell? ⟨w.heap.size + 1, 0, none⟩ = some (.string ⟨#[]⟩)) (hf : W.frozen? ⟨w.heap.size + 1, 0, none⟩ = false) :
    TxtAt w ((W.alloc (.cells #[.string ⟨nm.toArray⟩] 9)).alloc (.cells #[v1] 58)) v1 [nm] := by
  have hrow : (W.alloc (.cells #[.string ⟨nm.toArray⟩] 9)).ownsRow (w.heap.size + 2) 9 1 v1 1 ([nm].map strV) := by
    rw [hv]
    simpa [strV] using World.ownsRow_lit (base := w.heap.size + 2) (e := 9) (size := 1) W #[.string ⟨nm.toArray⟩] 1 (by omega) (by unfold maxLen; omega) (by simp)
  have b1 := below_new W (.cells #[.string ⟨nm.toArray⟩] 9)
  have b2 := below_new (W.alloc (.cells #[.string ⟨nm.toArray⟩] 9)) (.cells #[v1] 58)
  have z1 : (W.alloc (.cells #[.string ⟨nm.toArray⟩] 9)).heap.size = w.heap.size + 3 := by simp [hz]
  have hl := lt_of_cell hr
  refine ⟨ownsRow_below4 hrow b2, ?_, ?_, ?_, ?_, belowOn (belowOn hB b1) b2, ?_⟩
  · have := World.cell?_alloc_new (W.alloc (.cells #[.string ⟨nm.toArray⟩] 9)) #[v1] 58 0
    rw [z1] at this; exact this
  · have := World.frozen?_alloc_new (W.alloc (.cells #[.string ⟨nm.toArray⟩] 9)) #[v1] 58 0
    rw [z1] at this; exact this
  · exact ((b2.cell (p := ⟨_, 0, none⟩) (by simp; omega)).trans (b1.cell (p := ⟨_, 0, none⟩) hl)).trans hr
  · exact ((b2.frozen (p := ⟨_, 0, none⟩) (by simp; omega)).trans (b1.frozen (p := ⟨_, 0, none⟩) hl)).trans hf
  · rw [hv]; simp [Value.ownBlock]; omega
set_option maxHeartbeats 4000000 in
theorem text_kind (m : Nat) (h1 : 1 ≤ m) (h2 : m ≤ 11) (a b c : Int) (ha : ∀ p ∈ nums m a b c, inI p.2) (w : World) (hL : LaidT w) :
    Calls Tryd.prog 16 #[.agg #[.int .i64 (m : Int), .int .i64 a, .int .i64 b, .int .i64 c]] w fun e w' => e = .returned (.string ⟨(textF m a b c).toArray⟩) ∧ Below w.heap.size w w' := by
  have HE0 : Hid (textL m a b c = nmL m :: wordsN (nums m a b c)) := Lib.hid rfl
  have HT1 : Hid ((∀ p ∈ nums m a b c, 0 ≤ p.2) → textF m a b c = Lib.join (textL m a b c) [32]) := Lib.hid (fun h => if_pos ⟨⟨by omega, by omega⟩, h⟩)
  have HT2 : Hid ((¬ ∀ p ∈ nums m a b c, 0 ≤ p.2) → textF m a b c = []) := Lib.hid (fun h => if_neg (fun h' => h h'.2))
  have hlen : (nums m a b c).length ≤ 3 := by unfold nums; rw [numsH_length]; exact hsL_short _
  have hnm := nmL_short m
  generalize textF m a b c = TF at *
  obtain ⟨i9, hi9, hz0, hz1, hz2⟩ := info_parts infoString
  have hb := below_on (below_new w (.cells #[.int .i64 (m : Int), .int .i64 a, .int .i64 b, .int .i64 c] 25)) (.cells #[.string ⟨#[]⟩] 9)
  have HK := Lib.hid (isKind_yes m h1 h2)
  have HNm := Lib.hid (name_yes m h1 h2 _ (hL.rows.below hb))
  have HL := Lib.hid hL
  have hX := (Arr4.new w 25 m a b c).below (below_new _ (.cells #[.string ⟨#[]⟩] 9))
  have HB := Lib.hid hb; have HX := Lib.hid hX
  clear hL hb hX
  refine (callsIn_wide (n := 20)).1 ?_
  refine callsIn_of_wp_marks Tryd.func16 rfl trivial ?_ rfl
  simp only [Tryd.ntmps16, List.size_toArray, List.length_cons, List.length_nil, Nat.reduceAdd, Nat.reduceSub, Array.replicate_succ, Array.replicate_zero, List.push_toArray, List.append_toArray, List.nil_append, List.cons_append]
  gi_wp2_with fail
  refine ⟨trivial, ?_⟩
  refine (callsIn_wide.2 (HK.out _)).mono ?_
  rintro e W ⟨rfl, hW⟩
  have hz : W.heap.size = w.heap.size + 2 := by rw [← hW]; simp
  have hres : W.cell? ⟨w.heap.size + 1, 0, none⟩ = some (.string ⟨#[]⟩) := by
    rw [← hW]
    have := World.cell?_alloc_new (w.alloc (.cells #[.int .i64 (m : Int), .int .i64 a, .int .i64 b, .int .i64 c] 25)) #[.string ⟨#[]⟩] 9 0
    rw [show (w.alloc (.cells #[.int .i64 (m : Int), .int .i64 a, .int .i64 b, .int .i64 c] 25)).heap.size = w.heap.size + 1 by simp] at this
    exact this
  have hfr : W.frozen? ⟨w.heap.size + 1, 0, none⟩ = false := by
    rw [← hW]
    have := World.frozen?_alloc_new (w.alloc (.cells #[.int .i64 (m : Int), .int .i64 a, .int .i64 b, .int .i64 c] 25)) #[.string ⟨#[]⟩] 9 0
    rw [show (w.alloc (.cells #[.int .i64 (m : Int), .int .i64 a, .int .i64 b, .int .i64 c] 25)).heap.size = w.heap.size + 1 by simp] at this
    exact this
  rw [hW] at HNm HB HX
  obtain ⟨o0, o1, o2, o3, _⟩ := HX.out.cells
  have H0 := Lib.hid (TxtAt.first w W (nmL m) (.slice (some ⟨W.heap.size, 0, none⟩) 1 1) rfl hz HB.out hres hfr)
  rw [hz] at H0
  clear HK hW hres hfr
  generalize nmL m = nm at *
  gi_wp2_with fail
  refine ⟨trivial, ?_⟩
  refine (callsIn_wide.2 HNm.out).mono ?_
  rintro e W1 ⟨rfl, rfl⟩
  clear HNm
  gi_wp2_with fail
  refine ⟨trivial, ?_⟩
  refine (callsIn_wide.2 (opNumbers_c m a b c _)).mono ?_
  rintro e W2 ⟨rfl, hW2⟩
  have hzU : ((W.alloc (.cells #[.string ⟨nm.toArray⟩] 9)).alloc (.cells #[.slice (some ⟨w.heap.size + 2, 0, none⟩) 1 1] 58)).heap.size = w.heap.size + 4 := by simp [hz]
  clear o0 o1 o2 o3 HX HB
  generalize (W.alloc (.cells #[.string ⟨nm.toArray⟩] 9)).alloc (.cells #[.slice (some ⟨w.heap.size + 2, 0, none⟩) 1 1] 58) = U at *
  have hb2 : Below U.heap.size U W2 := by rw [hW2]; exact below_new _ _
  have hX2 : Arr4 W2 U.heap.size 25 m a b c := by rw [hW2]; exact Arr4.new _ _ _ _ _ _
  have hzW : W2.heap.size = w.heap.size + 5 := by rw [hW2]; simp [hzU]
  have H2 := Lib.hid (H0.out.on hb2)
  have HS := Lib.hid (numbers_seq 9 (by decide) (20 - 1) _ m a b c _ hX2 (HL.out.rows.below H2.out.old))
  rw [hzU] at HS ⊢
  clear hb2 hX2 H0 hW2 hzU hz
  gi_wp2
  refine wpIn_rangeL rfl (by decide) (gf := 33) (lb := #[.pointer (some ⟨w.heap.size + 4, 0, none⟩)]) rfl trivial (enters_of Tryd.func33 (by kernel_rfl) rfl)
    HS.out (Below.refl _ _) (fun _ => rfl)
    (fun pre W' => (∀ p ∈ pre, 0 ≤ p.2) ∧ ∃ v, TxtAt w W' v (nm :: wordsN pre))
    (fun cc pre W' => (cc = .ret ∧ ¬ ∀ p ∈ pre, 0 ≤ p.2) ∧ W'.cell? ⟨w.heap.size + 1, 0, none⟩ = some (.string ⟨#[]⟩) ∧ Below w.heap.size w W')
    (OwnFrom.and (ownFrom_pure _ _) (fun s A B row hs hg hrr => hs.imp fun v hv => hv.own hg (fun r e => ⟨by have := (hrr r e).1; omega, (hrr r e).2⟩)))
    (fun cc => OwnFrom.and (ownFrom_pure _ _) (fun s A B row hs hg hrr => ⟨cell_kept hs.1 hg (fun r e => (hrr r e).2), hs.2.grown hg hs.2.size (fun r e => by have := (hrr r e).1; omega)⟩))
    ⟨by simp, _, H2.out⟩
    (fun q => { tmps := #[.agg #[.int .i64 (m : Int), .int .i64 a, .int .i64 b, .int .i64 c], .pointer (some ⟨w.heap.size, 0, none⟩), .pointer (some ⟨w.heap.size + 1, 0, none⟩), .pointer (some ⟨w.heap.size + 2 + 1, 0, none⟩), undef, .int .i64 q.2,
      .pointer (some ⟨w.heap.size, 0, none⟩), .int .i64 (m : Int), .bool true, .bool false, .pointer (some ⟨w.heap.size, 0, none⟩), .int .i64 (m : Int), .string ⟨nm.toArray⟩, .slice (some ⟨w.heap.size + 2, 0, none⟩) 1 1,
      .agg #[.int .i64 (m : Int), .int .i64 a, .int .i64 b, .int .i64 c], .func (.func 33) #[] #[.pointer (some ⟨w.heap.size + 4, 0, none⟩)], .int .i32 q.1, .int .i64 q.2, undef, undef, undef, undef, undef, undef, undef, undef, undef], defers := [] }) ?assign ?body ?done ?stop
  case assign =>
    intro l' q W' K hK
    simp only [enc2]
    gi_wp2
    exact hK
  case body =>
    rintro l' pre ⟨u, x⟩ W' ⟨hok, v, hC⟩ hpre
    have HT := Lib.hid hC
    have hx : inI x := ha (u, x) (hpre.subset (by simp))
    have hlp : pre.length < 3 := by have := hpre.length_le; simp at this; omega
    clear hC hpre HS
    by_cases hv : x < 0
    · have HN : Hid (¬ ∀ p ∈ pre ++ [(u, x)], 0 ≤ p.2) := Lib.hid (fun h => by have := h (u, x) (by simp); simp only at this; omega)
      have hc := HT.out.res; have hf := HT.out.rfree
      clear hok hx
      gi_wp2
      exact ⟨KeepsTop.of_grownBy (grownBy_setCell' W' _ _) (fun j e => by cases e; omega), ⟨rfl, HN.out⟩, World.cell?_setCell_same' W' _ _ (by rw [hc]; rfl), HT.out.old.setCell (p := ⟨w.heap.size + 1, 0, none⟩) (by simp) _⟩
    · have HN : Hid (∀ p ∈ pre ++ [(u, x)], 0 ≤ p.2) := Lib.hid (fun p hp => by
        rcases List.mem_append.1 hp with hp | hp
        · exact hok p hp
        · obtain rfl : p = (u, x) := by simpa using hp
          simp only; omega)
      have HI := Lib.hid (itoa_c x hx)
      have HE : Hid ((nm :: wordsN pre) ++ [Lib.itoa x] = nm :: wordsN (pre ++ [(u, x)])) := Lib.hid (by simp [wordsN])
      have hll : (nm :: wordsN pre).length ≤ 3 := by simp [wordsN]; omega
      clear hok hx
      generalize Lib.itoa x = s at *
      generalize nm :: wordsN pre = lw at *
      have hm : w.heap.size + 3 < W'.heap.size := lt_of_cell HT.out.cell
      gi_wp2
      refine wpIn_region_heldR (S := fun _ => True) (by kernel_rfl) (by kernel_rfl) (fun ⟨_, _, h⟩ => h) trivial (fun hHeld => ?_)
      have HKT := Lib.hid (KeepsTop.of_below (e := 9) (B := W2.heap.size) (Below.refl _ W').drew)
      have HT := Lib.hid (HT.out.on (Below.refl _ W').drew)
      refine wpAnyH_take (i := 1) (oi := { dst := some 21, op := Op.move (Operand.tmp 5), type := 3, pos := "op.go:77", after := #[], guard := none }) (v := ?vq1) rfl (by kernel_rfl) (by kernel_rfl) (by kernel_rfl) (fun _ _ _ h => h) (Or.inl ⟨by rfl, ?hyq1⟩) hHeld ?_
      case hyq1 => (intro w hSw; (try dsimp only at hSw); go_simp; (try with_reducible rfl))
      try simp only [Act.put, List.setIfInBounds_toArray, List.set_cons_zero, List.set_cons_succ]
      refine wpAnyH_ready (rs := [0, 2]) (by kernel_rfl) (by simp) ?_
      refine AllReadyH.cons (o := { dst := some 20, op := Op.load 58 (Operand.tmp 3), type := 58, pos := "op.go:77", after := #[], guard := none }) rfl (fun K hK => ?_) ?_
      · have hcell := HT.out.cell
        go_simp
        refine hK.out _ _ trivial (fun hHeld => ?_)
        clear hK K
        try simp only [Act.put, List.setIfInBounds_toArray, List.set_cons_zero, List.set_cons_succ]
        clear hcell
        refine wpAnyH_ready (rs := [2]) (by kernel_rfl) (by simp) ?_
        refine AllReadyH.cons (o := { dst := some 22, op := Op.call { callee := Callee.value (Operand.func 29), args := #[Operand.tmp 21], argTypes := #[3] }, type := 9, pos := "op.go:77", after := #[{ on := 1, ground := Ground.data }], guard := none }) rfl (fun K hK => ?_) AllReadyH.nil
        go_simp
        refine (HI.out _ (HL.out.below HT.out.old)).mono ?_
        rintro e w1 ⟨rfl, hW⟩
        have HT := Lib.hid (HT.out.on hW)
        have hm1 : w.heap.size + 3 < w1.heap.size := lt_of_cell HT.out.cell
        have HKT := Lib.hid (HKT.out.trans (KeepsTop.of_below (e := 9) (B := W2.heap.size) hW))
        clear hW
        refine hK.out _ _ trivial (fun hHeld => ?_)
        clear hK K
        try simp only [Act.put, List.setIfInBounds_toArray, List.set_cons_zero, List.set_cons_succ]
        refine wpAnyH_ready (rs := [3]) (by kernel_rfl) (by simp) ?_
        refine AllReadyH.cons (o := { dst := some 23, op := Op.buildSlice 58 1 #[(0, Operand.tmp 22)], type := 58, pos := "op.go:77", after := #[{ on := 2, ground := Ground.data }], guard := none }) rfl (fun K hK => ?_) AllReadyH.nil
        go_simp
        refine hK.out _ _ trivial (fun hHeld => ?_)
        clear hK K
        try simp only [Act.put, List.setIfInBounds_toArray, List.set_cons_zero, List.set_cons_succ]
        have hnew := heap_alloc_new w1 (.cells #[.string ⟨s.toArray⟩] 9)
        have HT := Lib.hid (HT.out.on (below_new _ (.cells #[.string ⟨s.toArray⟩] 9)))
        have HKT := Lib.hid (HKT.out.trans (KeepsTop.of_below (e := 9) (B := W2.heap.size) (below_new _ (.cells #[.string ⟨s.toArray⟩] 9))))
        have hz : (w1.alloc (.cells #[.string ⟨s.toArray⟩] 9)).heap.size = w1.heap.size + 1 := by simp
        refine wpAnyH_ready (rs := [4]) (by kernel_rfl) (by simp) ?_
        refine AllReadyH.cons (o := { dst := some 24, op := Op.call { callee := Callee.builtin Builtin.append, args := #[Operand.tmp 20, Operand.tmp 23], argTypes := #[58, 58] }, type := 58, pos := "op.go:77", after := #[{ on := 0, ground := Ground.data }, { on := 3, ground := Ground.data }, { on := 2, ground := Ground.chain }], guard := none }) rfl (fun K hK => ?_) AllReadyH.nil
        refine step_append_lies _ (by rfl) _ _ _ (by rfl) (w.heap.size + 2) 9 i9 _ 1 16 Tryd.underlying58 hi9 hz0 hz1 hz2 rfl (by omega) v lw.length _ (by rfl) HT.out.row ⟨w1.heap.size, 0, none⟩ 1 1 [.string ⟨s.toArray⟩] (by rfl) (by rfl) (World.news_of_block hnew) (by simp [Value.oneCell']) (by omega) (by unfold maxLen; omega) (by omega) (by rw [hz]; omega) (w1.heap.size + 1) hz ?_
        intro gg cap' w2 hown1 hgrow hat hlt2
        have HT2 := Lib.hid (HT.out.add hown1 hgrow (hat.imp id (fun h => h.trans hz.symm)))
        have HKT := Lib.hid (HKT.out.trans (HT.out.keeps (B := W2.heap.size) hgrow))
        clear hown1 hgrow hat hlt2 HT
        refine hK.out _ _ trivial (fun hHeld => ?_)
        clear hK K
        try simp only [Act.put, List.setIfInBounds_toArray, List.set_cons_zero, List.set_cons_succ]
        refine wpAnyH_ready (rs := [5]) (by kernel_rfl) (by simp) ?_
        refine AllReadyH.cons (o := { dst := none, op := Op.store 58 (Operand.tmp 3) (Operand.tmp 24), type := 0, pos := "op.go:77", after := #[{ on := 4, ground := Ground.data }, { on := 4, ground := Ground.chain }, { on := 0, ground := Ground.phase }, { on := 1, ground := Ground.phase }, { on := 2, ground := Ground.phase }, { on := 3, ground := Ground.phase }, { on := 4, ground := Ground.phase }], guard := none }) rfl (fun K hK => ?_) AllReadyH.nil
        have hcell := HT2.out.cell2; have hfree := HT2.out.free2
        go_simp
        refine hK.out _ _ trivial (fun hHeld => ?_)
        clear hK K
        try simp only [Act.put, List.setIfInBounds_toArray, List.set_cons_zero, List.set_cons_succ]
        clear hcell hfree
        refine wpAnyH_done (by kernel_rfl) ?_ _
        gi_wp2
        exact ⟨HKT.out.trans (KeepsTop.of_grownBy (grownBy_setCell' w2 _ _) (fun j e => by cases e; omega)), HN.out, _, HE.out ▸ HT2.out.done⟩
      refine AllReadyH.cons (o := { dst := some 22, op := Op.call { callee := Callee.value (Operand.func 29), args := #[Operand.tmp 21], argTypes := #[3] }, type := 9, pos := "op.go:77", after := #[{ on := 1, ground := Ground.data }], guard := none }) rfl (fun K hK => ?_) AllReadyH.nil
      go_simp
      refine (HI.out _ (HL.out.below HT.out.old)).mono ?_
      rintro e w1 ⟨rfl, hW⟩
      have HT := Lib.hid (HT.out.on hW)
      have hm1 : w.heap.size + 3 < w1.heap.size := lt_of_cell HT.out.cell
      have HKT := Lib.hid (HKT.out.trans (KeepsTop.of_below (e := 9) (B := W2.heap.size) hW))
      clear hW
      refine hK.out _ _ trivial (fun hHeld => ?_)
      clear hK K
      try simp only [Act.put, List.setIfInBounds_toArray, List.set_cons_zero, List.set_cons_succ]
      refine wpAnyH_ready (rs := [0, 3]) (by kernel_rfl) (by simp) ?_
      refine AllReadyH.cons (o := { dst := some 20, op := Op.load 58 (Operand.tmp 3), type := 58, pos := "op.go:77", after := #[], guard := none }) rfl (fun K hK => ?_) ?_
      · have hcell := HT.out.cell
        go_simp
        refine hK.out _ _ trivial (fun hHeld => ?_)
        clear hK K
        try simp only [Act.put, List.setIfInBounds_toArray, List.set_cons_zero, List.set_cons_succ]
        clear hcell
        refine wpAnyH_ready (rs := [3]) (by kernel_rfl) (by simp) ?_
        refine AllReadyH.cons (o := { dst := some 23, op := Op.buildSlice 58 1 #[(0, Operand.tmp 22)], type := 58, pos := "op.go:77", after := #[{ on := 2, ground := Ground.data }], guard := none }) rfl (fun K hK => ?_) AllReadyH.nil
        go_simp
        refine hK.out _ _ trivial (fun hHeld => ?_)
        clear hK K
        try simp only [Act.put, List.setIfInBounds_toArray, List.set_cons_zero, List.set_cons_succ]
        have hnew := heap_alloc_new w1 (.cells #[.string ⟨s.toArray⟩] 9)
        have HT := Lib.hid (HT.out.on (below_new _ (.cells #[.string ⟨s.toArray⟩] 9)))
        have HKT := Lib.hid (HKT.out.trans (KeepsTop.of_below (e := 9) (B := W2.heap.size) (below_new _ (.cells #[.string ⟨s.toArray⟩] 9))))
        have hz : (w1.alloc (.cells #[.string ⟨s.toArray⟩] 9)).heap.size = w1.heap.size + 1 := by simp
        refine wpAnyH_ready (rs := [4]) (by kernel_rfl) (by simp) ?_
        refine AllReadyH.cons (o := { dst := some 24, op := Op.call { callee := Callee.builtin Builtin.append, args := #[Operand.tmp 20, Operand.tmp 23], argTypes := #[58, 58] }, type := 58, pos := "op.go:77", after := #[{ on := 0, ground := Ground.data }, { on := 3, ground := Ground.data }, { on := 2, ground := Ground.chain }], guard := none }) rfl (fun K hK => ?_) AllReadyH.nil
        refine step_append_lies _ (by rfl) _ _ _ (by rfl) (w.heap.size + 2) 9 i9 _ 1 16 Tryd.underlying58 hi9 hz0 hz1 hz2 rfl (by omega) v lw.length _ (by rfl) HT.out.row ⟨w1.heap.size, 0, none⟩ 1 1 [.string ⟨s.toArray⟩] (by rfl) (by rfl) (World.news_of_block hnew) (by simp [Value.oneCell']) (by omega) (by unfold maxLen; omega) (by omega) (by rw [hz]; omega) (w1.heap.size + 1) hz ?_
        intro gg cap' w2 hown1 hgrow hat hlt2
        have HT2 := Lib.hid (HT.out.add hown1 hgrow (hat.imp id (fun h => h.trans hz.symm)))
        have HKT := Lib.hid (HKT.out.trans (HT.out.keeps (B := W2.heap.size) hgrow))
        clear hown1 hgrow hat hlt2 HT
        refine hK.out _ _ trivial (fun hHeld => ?_)
        clear hK K
        try simp only [Act.put, List.setIfInBounds_toArray, List.set_cons_zero, List.set_cons_succ]
        refine wpAnyH_ready (rs := [5]) (by kernel_rfl) (by simp) ?_
        refine AllReadyH.cons (o := { dst := none, op := Op.store 58 (Operand.tmp 3) (Operand.tmp 24), type := 0, pos := "op.go:77", after := #[{ on := 4, ground := Ground.data }, { on := 4, ground := Ground.chain }, { on := 0, ground := Ground.phase }, { on := 1, ground := Ground.phase }, { on := 2, ground := Ground.phase }, { on := 3, ground := Ground.phase }, { on := 4, ground := Ground.phase }], guard := none }) rfl (fun K hK => ?_) AllReadyH.nil
        have hcell := HT2.out.cell2; have hfree := HT2.out.free2
        go_simp
        refine hK.out _ _ trivial (fun hHeld => ?_)
        clear hK K
        try simp only [Act.put, List.setIfInBounds_toArray, List.set_cons_zero, List.set_cons_succ]
        clear hcell hfree
        refine wpAnyH_done (by kernel_rfl) ?_ _
        gi_wp2
        exact ⟨HKT.out.trans (KeepsTop.of_grownBy (grownBy_setCell' w2 _ _) (fun j e => by cases e; omega)), HN.out, _, HE.out ▸ HT2.out.done⟩
      refine AllReadyH.cons (o := { dst := some 23, op := Op.buildSlice 58 1 #[(0, Operand.tmp 22)], type := 58, pos := "op.go:77", after := #[{ on := 2, ground := Ground.data }], guard := none }) rfl (fun K hK => ?_) AllReadyH.nil
      go_simp
      refine hK.out _ _ trivial (fun hHeld => ?_)
      clear hK K
      try simp only [Act.put, List.setIfInBounds_toArray, List.set_cons_zero, List.set_cons_succ]
      have hnew := heap_alloc_new w1 (.cells #[.string ⟨s.toArray⟩] 9)
      have HT := Lib.hid (HT.out.on (below_new _ (.cells #[.string ⟨s.toArray⟩] 9)))
      have HKT := Lib.hid (HKT.out.trans (KeepsTop.of_below (e := 9) (B := W2.heap.size) (below_new _ (.cells #[.string ⟨s.toArray⟩] 9))))
      have hz : (w1.alloc (.cells #[.string ⟨s.toArray⟩] 9)).heap.size = w1.heap.size + 1 := by simp
      refine wpAnyH_ready (rs := [0]) (by kernel_rfl) (by simp) ?_
      refine AllReadyH.cons (o := { dst := some 20, op := Op.load 58 (Operand.tmp 3), type := 58, pos := "op.go:77", after := #[], guard := none }) rfl (fun K hK => ?_) AllReadyH.nil
      have hcell := HT.out.cell
      go_simp
      refine hK.out _ _ trivial (fun hHeld => ?_)
      clear hK K
      try simp only [Act.put, List.setIfInBounds_toArray, List.set_cons_zero, List.set_cons_succ]
      clear hcell
      refine wpAnyH_ready (rs := [4]) (by kernel_rfl) (by simp) ?_
      refine AllReadyH.cons (o := { dst := some 24, op := Op.call { callee := Callee.builtin Builtin.append, args := #[Operand.tmp 20, Operand.tmp 23], argTypes := #[58, 58] }, type := 58, pos := "op.go:77", after := #[{ on := 0, ground := Ground.data }, { on := 3, ground := Ground.data }, { on := 2, ground := Ground.chain }], guard := none }) rfl (fun K hK => ?_) AllReadyH.nil
      refine step_append_lies _ (by rfl) _ _ _ (by rfl) (w.heap.size + 2) 9 i9 _ 1 16 Tryd.underlying58 hi9 hz0 hz1 hz2 rfl (by omega) v lw.length _ (by rfl) HT.out.row ⟨w1.heap.size, 0, none⟩ 1 1 [.string ⟨s.toArray⟩] (by rfl) (by rfl) (World.news_of_block hnew) (by simp [Value.oneCell']) (by omega) (by unfold maxLen; omega) (by omega) (by rw [hz]; omega) (w1.heap.size + 1) hz ?_
      intro gg cap' w2 hown1 hgrow hat hlt2
      have HT2 := Lib.hid (HT.out.add hown1 hgrow (hat.imp id (fun h => h.trans hz.symm)))
      have HKT := Lib.hid (HKT.out.trans (HT.out.keeps (B := W2.heap.size) hgrow))
      clear hown1 hgrow hat hlt2 HT
      refine hK.out _ _ trivial (fun hHeld => ?_)
      clear hK K
      try simp only [Act.put, List.setIfInBounds_toArray, List.set_cons_zero, List.set_cons_succ]
      refine wpAnyH_ready (rs := [5]) (by kernel_rfl) (by simp) ?_
      refine AllReadyH.cons (o := { dst := none, op := Op.store 58 (Operand.tmp 3) (Operand.tmp 24), type := 0, pos := "op.go:77", after := #[{ on := 4, ground := Ground.data }, { on := 4, ground := Ground.chain }, { on := 0, ground := Ground.phase }, { on := 1, ground := Ground.phase }, { on := 2, ground := Ground.phase }, { on := 3, ground := Ground.phase }, { on := 4, ground := Ground.phase }], guard := none }) rfl (fun K hK => ?_) AllReadyH.nil
      have hcell := HT2.out.cell2; have hfree := HT2.out.free2
      go_simp
      refine hK.out _ _ trivial (fun hHeld => ?_)
      clear hK K
      try simp only [Act.put, List.setIfInBounds_toArray, List.set_cons_zero, List.set_cons_succ]
      clear hcell hfree
      refine wpAnyH_done (by kernel_rfl) ?_ _
      gi_wp2
      exact ⟨HKT.out.trans (KeepsTop.of_grownBy (grownBy_setCell' w2 _ _) (fun j e => by cases e; omega)), HN.out, _, HE.out ▸ HT2.out.done⟩
  case done =>
    rintro D W' hD ⟨hok, v, hC⟩ hK
    have hTF := HT1.out hok
    have hsh := text_short nm (nums m a b c) hnm hlen hok ha
    have hpos : 0 < (nm :: wordsN (nums m a b c)).length := by simp
    have hlw : (nm :: wordsN (nums m a b c)).length ≤ 4 := by simp [wordsN]; omega
    rw [HE0.out] at hTF
    clear HT1 HT2 HS HE0 ha hok
    generalize nm :: wordsN (nums m a b c) = lw at *
    obtain ⟨g, cp, rfl, hg, hgl⟩ := hC.row.form hpos
    have hcap : lw.length ≤ cp := by
      rcases hC.row.2 with ⟨h, _⟩ | ⟨g', cap', cur, h, _, _, h', _⟩
      · cases h
      · cases h; exact h'
    have hcells : ∀ (j : Nat) x, (lw.map fun l => (⟨l.toArray⟩ : ByteArray))[j]? = some x → W'.cell? ⟨g, 0 + j, none⟩ = some (.string x) := fun j x h => by
      have := hC.row.cells rfl j (.string x) (by
        rw [List.getElem?_map] at h ⊢
        cases h' : lw[j]? with
        | none => rw [h'] at h; cases h
        | some y => rw [h'] at h; cases h; rfl)
      rw [Addr.add_lit] at this
      exact this
    have hJ := Tryd.strings_Join g 0 cp (lw.map fun l => (⟨l.toArray⟩ : ByteArray)) ⟨#[32]⟩ W' hcells hgl (by simp; omega) (by simpa using hcap) (by
      rw [List.map_map, show ((fun x : ByteArray => x.data.toList) ∘ fun l : List UInt8 => (⟨l.toArray⟩ : ByteArray)) = id from funext fun l => by simp, List.map_id]
      exact Nat.le_trans hsh (by decide))
    rw [List.map_map, show ((fun x : ByteArray => x.data.toList) ∘ fun l : List UInt8 => (⟨l.toArray⟩ : ByteArray)) = id from funext fun l => by simp, List.map_id, List.length_map] at hJ
    rw [show (⟨#[32]⟩ : ByteArray).data.toList = [32] from rfl, ← hTF] at hJ
    have HJ := Lib.hid hJ
    have HC := Lib.hid hC
    have hcell := HC.out.cell
    clear hcells hJ hsh hTF hC
    gi_wp2_with fail
    refine ⟨trivial, ?_⟩
    refine (callsIn_wide.2 HJ.out).mono ?_
    rintro e W3 ⟨rfl, hW3⟩
    have HC3 := Lib.hid (HC.out.on hW3)
    have hK3 := (hW3.block D (Array.getElem?_eq_some_iff.1 hK).1).trans hK
    have hc := HC3.out.res; have hf := HC3.out.rfree
    clear HC HJ hW3 hcell hK
    gi_wp2
    have hK' := (KeepsOthers.setCell W3 ⟨w.heap.size + 1, 0, none⟩ (.string ⟨TF.toArray⟩)).same D _ hK3 rfl
    refine ⟨by simp, .inl ⟨_, _, rfl, run_takeDeferred hK', ?_⟩⟩
    have hc5 := cell_kept (World.cell?_setCell_same' W3 ⟨w.heap.size + 1, 0, none⟩ (.string ⟨TF.toArray⟩) (by rw [hc]; rfl)) (grownBy_putObj' _ D (.deferred none)) (fun r e => by cases e; exact ⟨_, hK', rfl⟩)
    have hB5 := HC3.out.old.setCell (p := ⟨w.heap.size + 1, 0, none⟩) (by simp) (.string ⟨TF.toArray⟩)
    refine ⟨.string ⟨TF.toArray⟩, ?_, rfl, hB5.grown (grownBy_putObj' _ D (.deferred none)) hB5.size (fun k e => by cases e; omega)⟩
    simp [results, Tryd.f16, go_sem, hc5]
  case stop =>
    rintro D cc pre W' hD hpre ⟨⟨rfl, hnot⟩, hc, hB⟩ hK
    have HN : Hid (TF = []) := Lib.hid (HT2.out (fun h => hnot (fun p hp => h p (hpre.subset hp))))
    clear hnot hpre HS
    gi_wp2
    refine ⟨by simp, .inl ⟨_, _, rfl, run_takeDeferred hK, ?_⟩⟩
    have hc5 := cell_kept hc (grownBy_putObj' _ D (.deferred none)) (fun r e => by cases e; exact ⟨_, hK, rfl⟩)
    refine ⟨.string ⟨#[]⟩, ?_, by rw [HN.out], hB.grown (grownBy_putObj' _ D (.deferred none)) hB.size (fun k e => by cases e; omega)⟩
    simp [results, Tryd.f16, go_sem, hc5]
theorem nums_in {k a b c : Int} (ha : inI a) (hb : inI b) (hc : inI c) : ∀ p ∈ nums k a b c, inI p.2 := by
  intro p hp
  unfold nums numsH at hp
  obtain ⟨i, _, rfl⟩ := List.mem_map.1 hp
  simp only
  unfold numF
  split
  · exact ha
  · exact hb
  · exact hc
theorem text_c (k a b c : Int) (ha : inI a) (hb : inI b) (hc : inI c) (w : World) (hL : LaidT w) :
    Calls Tryd.prog 16 #[.agg #[.int .i64 k, .int .i64 a, .int .i64 b, .int .i64 c]] w fun e w' => e = .returned (.string ⟨(textF k a b c).toArray⟩) ∧ Below w.heap.size w w' := by
  by_cases hk : okK k
  · obtain ⟨m, rfl, h1, h2⟩ := hk.nat
    exact text_kind m h1 h2 a b c (nums_in ha hb hc) w hL
  · have e : textF k a b c = [] := if_neg (fun h => hk h.1)
    rw [e]
    exact text_notKind k a b c hk w
end Go.Proofs.YtaiioflhkmflgaaDoor
