/- Laid together: ArenaDo, ArenaRefDo, ArenaPlay, Hand, Arr4. -/
import Derived.Test.YtbpooljohjkbjaaGreatDoorM1
import Derived.Deep.RegionHeld3
import Derived.Deep.DrawnRows
/- Package arena's Do: an access at a place that is there, of each kind; of no kind; at a place that isn't there. -/
namespace Go.Proofs.YtbpooljohjkbjaaGreatDoor
open Go Go.RowKit
set_option maxRecDepth 100000
def Acc5 (w : World) (B : Nat) (k i x y o : Int) : Prop := w.heap[B]? = some (.cells #[.int .i64 k, .int .i64 i, .int .u64 x, .int .u64 y, .int .u64 o] 38 (0, 0))
namespace Acc5
variable {w w' : World} {B : Nat} {k i x y o : Int}
theorem cells (h : Acc5 w B k i x y o) : w.cell? ⟨B, 0, none⟩ = some (.int .i64 k) ∧ w.cell? ⟨B, 1, none⟩ = some (.int .i64 i) ∧ w.cell? ⟨B, 2, none⟩ = some (.int .u64 x) ∧ w.cell? ⟨B, 3, none⟩ = some (.int .u64 y) ∧ w.cell? ⟨B, 4, none⟩ = some (.int .u64 o) ∧ (∀ j, w.frozen? ⟨B, j, none⟩ = false) := by
  unfold Acc5 at h
  refine ⟨by simp [World.cell?, h], by simp [World.cell?, h], by simp [World.cell?, h], by simp [World.cell?, h], by simp [World.cell?, h], fun j => by simp [World.frozen?, h]⟩
theorem lt (h : Acc5 w B k i x y o) : B < w.heap.size := (Array.getElem?_eq_some_iff.1 h).1
theorem other (h : Acc5 w B k i x y o) (e : w'.heap[B]? = w.heap[B]?) : Acc5 w' B k i x y o := e.trans h
theorem below (h : Acc5 w B k i x y o) (hb : Below w.heap.size w w') : Acc5 w' B k i x y o := h.other (hb.block _ h.lt)
theorem setOther (h : Acc5 w B k i x y o) {p : Addr} (hp : B ≠ p.block) (v : Value) : Acc5 (w.setCell p v) B k i x y o := h.other (Below.heap_setCell _ _ _ _ hp)
theorem set4 (h : Acc5 w B k i x y o) (z : Int) : Acc5 (w.setCell ⟨B, 4, none⟩ (.int .u64 z)) B k i x y z := by
  unfold Acc5 at *; simp [World.setCell, Array.getElem?_modify, h]
theorem new (w : World) (k i x y o : Int) : Acc5 (w.alloc (.cells #[.int .i64 k, .int .i64 i, .int .u64 x, .int .u64 y, .int .u64 o] 38)) w.heap.size k i x y o := newBlock _ _
end Acc5
abbrev put5 (w : World) (C : Nat) (k i x y o : Int) : World := ((((w.setCell ⟨C, 0, none⟩ (.int .i64 k)).setCell ⟨C, 1, none⟩ (.int .i64 i)).setCell ⟨C, 2, none⟩ (.int .u64 x)).setCell ⟨C, 3, none⟩ (.int .u64 y)).setCell ⟨C, 4, none⟩ (.int .u64 o)
theorem Acc5.put {w : World} {C : Nat} {k i x y o : Int} (h : Acc5 w C k i x y o) (k' i' x' y' o' : Int) : Acc5 (put5 w C k' i' x' y' o') C k' i' x' y' o' := by
  unfold Acc5 at *; simp [World.setCell, Array.getElem?_modify, h]
structure Only (G : Nat) (w w' : World) : Prop where
  os : w'.os = w.os
  tape : w'.tape = w.tape
  output : w'.output = w.output
  size : w.heap.size ≤ w'.heap.size
  block : ∀ k, k < w.heap.size → k ≠ G → w'.heap[k]? = w.heap[k]?
theorem Only.of {G : Nat} {w w' : World} (h : Below w.heap.size w w') : Only G w w' := ⟨h.os, h.tape, h.output, h.size, fun k hk _ => h.block k hk⟩
theorem Only.trans {G : Nat} {a b c : World} (h : Only G a b) (k : Only G b c) : Only G a c :=
  ⟨k.os.trans h.os, k.tape.trans h.tape, k.output.trans h.output, Nat.le_trans h.size k.size, fun i hi hg => (k.block i (by have := h.size; omega) hg).trans (h.block i hi hg)⟩
theorem Only.set {G : Nat} {a w : World} (h : Only G a w) {p : Addr} (hp : p.block = G ∨ a.heap.size ≤ p.block) (v : Value) : Only G a (w.setCell p v) :=
  ⟨h.os, h.tape, h.output, by have := h.size; simpa [World.setCell] using this, fun k hk hg => (Below.heap_setCell _ _ _ _ (by omega)).trans (h.block k hk hg)⟩
theorem Only.put {G : Nat} {a w : World} (h : Only G a w) {C : Nat} (hC : a.heap.size ≤ C) (k i x y o : Int) : Only G a (put5 w C k i x y o) :=
  ((((h.set (p := ⟨C, 0, none⟩) (.inr hC) _).set (p := ⟨C, 1, none⟩) (.inr hC) _).set (p := ⟨C, 2, none⟩) (.inr hC) _).set (p := ⟨C, 3, none⟩) (.inr hC) _).set (p := ⟨C, 4, none⟩) (.inr hC) _
theorem Only.below {G B : Nat} {w w' : World} (h : Only G w w') (h1 : B ≤ w.heap.size) (h2 : B ≤ G) : Below B w w' := ⟨h.os, h.tape, h.output, h.size, fun k hk => h.block k (by omega) (by omega)⟩
theorem ArenaAt.put {w : World} {A G n : Nat} {f : Nat → Int} (h : ArenaAt w A G n f) {C : Nat} (h1 : C ≠ A) (h2 : C ≠ G) (k i x y o : Int) : ArenaAt (put5 w C k i x y o) A G n f :=
  ((((h.setOther (p := ⟨C, 0, none⟩) h1 h2 _).setOther (p := ⟨C, 1, none⟩) h1 h2 _).setOther (p := ⟨C, 2, none⟩) h1 h2 _).setOther (p := ⟨C, 3, none⟩) h1 h2 _).setOther (p := ⟨C, 4, none⟩) h1 h2 _
abbrev accV (k i x y o : Int) : Value := .agg #[.int .i64 k, .int .i64 i, .int .u64 x, .int .u64 y, .int .u64 o]
abbrev begun (w : World) (k i x y o : Int) : World := (w.alloc (.cells #[.int .i64 k, .int .i64 i, .int .u64 x, .int .u64 y, .int .u64 o] 38)).alloc (.cells #[.int .i64 0, .int .i64 0, .int .u64 0, .int .u64 0, .int .u64 0] 38)
theorem begun_acc (w : World) (k i x y o : Int) : Acc5 (begun w k i x y o) w.heap.size k i x y o := (Acc5.new w k i x y o).below (below_new _ _)
theorem begun_ans (w : World) (k i x y o : Int) : Acc5 (begun w k i x y o) (w.heap.size + 1) 0 0 0 0 0 := by
  have := Acc5.new (w.alloc (.cells #[.int .i64 k, .int .i64 i, .int .u64 x, .int .u64 y, .int .u64 o] 38)) 0 0 0 0 0
  simpa using this
theorem begun_below (w : World) (k i x y o : Int) : Below w.heap.size w (begun w k i x y o) := below_on (below_new _ _) _
set_option maxHeartbeats 1600000 in
theorem Do_out {w : World} {p : Option Addr} (k i x y o : Int) (h : ∀ W, Below w.heap.size w W → NoPlace W (.pointer p) i) :
    Calls Tryz.prog 190 #[.pointer p, accV k i x y o] w fun e w' => e = .returned (.tuple #[accV 0 0 0 0 0, .bool false]) ∧ Below w.heap.size w w' := by
  have HN := Lib.hid (h _ (begun_below w k i x y o)); clear h
  obtain ⟨b0, b1, b2, b3, b4, bf⟩ := (begun_acc w k i x y o).cells
  go_enter Tryz.func190, Tryz.ntmps190
  go_wp2_with fail
  refine HN.out.mono ?_
  rintro e W ⟨rfl, hW⟩
  have HC : Hid (Acc5 W (w.heap.size + 1) 0 0 0 0 0) := Lib.hid (by rw [← hW]; exact begun_ans w k i x y o)
  have HB : Hid (Below w.heap.size w W) := Lib.hid (by rw [← hW]; exact begun_below w k i x y o)
  clear HN hW b0 b1 b2 b3 b4 bf
  obtain ⟨c0, c1, c2, c3, c4, cf⟩ := HC.out.cells
  obtain ⟨s0, s1, s2, s3, s4, _⟩ := (HC.out.put 0 0 0 0 0).cells
  go_wp2_with fail
  refine bodyPost_ret (v := .tuple #[accV 0 0 0 0 0, .bool false]) (by simp [results, Tryz.f190, go_sem, s0, s1, s2, s3, s4]) rfl ?_
  exact ⟨rfl, ((Only.of (G := w.heap.size) HB.out).put (by omega) _ _ _ _ _).below (Nat.le_refl _) (Nat.le_refl _)⟩
theorem Cas_was {A G n : Nat} {f : Nat → Int} {w : World} (hA : ArenaAt w A G n f) (k : Nat) (hk : k < n) (y : Int) {x : Int} (hx : f k = x) :
    Calls Tryz.prog 192 #[.pointer (some ⟨A, 0, none⟩), .int .i64 k, .int .u64 x, .int .u64 y] w fun e w' => e = .returned (.bool true) ∧ w' = w.setCell ⟨G, k, none⟩ (.int .u64 y) := by
  have h := Cas_hit hA k hk y; rwa [hx] at h
def doF (f : Nat → Int) (k : Int) (j : Nat) (x y : Int) : Nat → Int :=
  if k = 2 then upd f j x else if k = 3 then (if f j = x then upd f j y else f) else if k = 4 then upd f j (sumW (f j) x) else f
def DoPost (w : World) (A G n : Nat) (f' : Nat → Int) (v : Value) (b : Bool) (e : Ending) (w' : World) : Prop := e = .returned (.tuple #[v, .bool b]) ∧ ArenaAt w' A G n f' ∧ Only G w w'
structure Half (w W : World) (A G n : Nat) (f : Nat → Int) (k i x y o : Int) : Prop where
  only : Only G w W
  ar : ArenaAt W A G n f
  acc : Acc5 W w.heap.size k i x y o
  ans : Acc5 W (w.heap.size + 1) 0 0 0 0 0
  a : A < w.heap.size
  g : G < w.heap.size
theorem Half.begun {w : World} {A G n : Nat} {f : Nat → Int} (hA : ArenaAt w A G n f) (k i x y o : Int) : Half w (begun w k i x y o) A G n f k i x y o :=
  ⟨.of (begun_below ..), hA.below (begun_below ..), begun_acc .., begun_ans .., hA.lt, hA.row.lt⟩
theorem Half.old {w W : World} {A G n : Nat} {f : Nat → Int} {k i x y o : Int} (h : Half w W A G n f k i x y o) (z : Int) : Half w (W.setCell ⟨w.heap.size, 4, none⟩ (.int .u64 z)) A G n f k i x y z :=
  have ha := h.a; have hg := h.g
  ⟨h.only.set (p := ⟨w.heap.size, 4, none⟩) (.inr (Nat.le_refl _)) _, h.ar.setOther (p := ⟨w.heap.size, 4, none⟩) (by simp only; omega) (by simp only; omega) _, h.acc.set4 z, h.ans.setOther (p := ⟨w.heap.size, 4, none⟩) (by simp only; omega) _, ha, hg⟩
theorem Half.word {w W : World} {A G n : Nat} {f : Nat → Int} {k i x y o : Int} (h : Half w W A G n f k i x y o) (j : Nat) (z : Int) : Half w (W.setCell ⟨G, j, none⟩ (.int .u64 z)) A G n (upd f j z) k i x y o :=
  have hg := h.g
  ⟨h.only.set (p := ⟨G, j, none⟩) (.inl rfl) _, h.ar.set j z, h.acc.setOther (p := ⟨G, j, none⟩) (by simp only; omega) _, h.ans.setOther (p := ⟨G, j, none⟩) (by simp only; omega) _, h.a, hg⟩
theorem Half.post {w W : World} {A G n : Nat} {f : Nat → Int} {k i x y o : Int} (h : Half w W A G n f k i x y o) (k' i' x' y' o' : Int) (b : Bool) :
    DoPost w A G n f (accV k' i' x' y' o') b (.returned (.tuple #[accV k' i' x' y' o', .bool b])) (put5 W (w.heap.size + 1) k' i' x' y' o') :=
  have ha := h.a; have hg := h.g
  ⟨rfl, h.ar.put (by omega) (by omega) _ _ _ _ _, h.only.put (by omega) _ _ _ _ _⟩
set_option maxHeartbeats 3200000 in
theorem Do_load {A G n : Nat} {f : Nat → Int} {w : World} (hA : ArenaAt w A G n f) (j : Nat) (hj : j < n) (x y o : Int) :
    Calls Tryz.prog 190 #[.pointer (some ⟨A, 0, none⟩), accV 1 j x y o] w (DoPost w A G n f (accV 1 j x y (f j)) true) := by
  have HF := Lib.hid (Half.begun hA 1 j x y o)
  have HN := Lib.hid (has_in HF.out.ar (i := j) (by omega))
  have HL := Lib.hid (Load_in HF.out.ar j hj)
  obtain ⟨b0, b1, b2, b3, b4, bf⟩ := HF.out.acc.cells
  clear hA
  generalize hv : f j = v at HL
  go_enter Tryz.func190, Tryz.ntmps190
  go_wp2_with fail
  refine HN.out.mono ?_
  rintro e W ⟨rfl, hW⟩
  rw [hW] at HF HL
  clear HN b0 b1 b2 b3 b4 bf hW
  obtain ⟨b0, b1, b2, b3, b4, bf⟩ := HF.out.acc.cells
  go_wp2_with fail
  refine HL.out.mono ?_
  rintro e W1 ⟨rfl, rfl⟩
  have HO := Lib.hid (HF.out.old v)
  obtain ⟨c0, c1, c2, c3, c4, cf⟩ := HF.out.ans.cells
  obtain ⟨s0, s1, s2, s3, s4, _⟩ := (HO.out.ans.put 1 j x y v).cells
  clear HL
  go_wp2_with fail
  refine bodyPost_ret (v := .tuple #[accV 1 j x y v, .bool true]) (by simp [results, Tryz.f190, go_sem, s0, s1, s2, s3, s4]) rfl ?_
  first | exact HO.out.post 1 j x y v true | (rw [hv] at HO; exact HO.out.post 1 j x y v true)
set_option maxHeartbeats 3200000 in
theorem Do_store {A G n : Nat} {f : Nat → Int} {w : World} (hA : ArenaAt w A G n f) (j : Nat) (hj : j < n) (x y o : Int) :
    Calls Tryz.prog 190 #[.pointer (some ⟨A, 0, none⟩), accV 2 j x y o] w (DoPost w A G n (upd f j x) (accV 2 j x y (f j)) true) := by
  have HF := Lib.hid (Half.begun hA 2 j x y o)
  have HN := Lib.hid (has_in HF.out.ar (i := j) (by omega))
  have HL := Lib.hid (Load_in HF.out.ar j hj)
  obtain ⟨b0, b1, b2, b3, b4, bf⟩ := HF.out.acc.cells
  clear hA
  generalize hv : f j = v at HL
  go_enter Tryz.func190, Tryz.ntmps190
  go_wp2_with fail
  refine HN.out.mono ?_
  rintro e W ⟨rfl, hW⟩
  rw [hW] at HF HL
  clear HN b0 b1 b2 b3 b4 bf hW
  obtain ⟨b0, b1, b2, b3, b4, bf⟩ := HF.out.acc.cells
  go_wp2_with fail
  refine HL.out.mono ?_
  rintro e W1 ⟨rfl, rfl⟩
  have HO := Lib.hid (HF.out.old v)
  have HV := Lib.hid (Store_in HO.out.ar j hj x)
  clear HL
  go_wp2_with fail
  refine HV.out.mono ?_
  rintro e W2 ⟨rfl, hW⟩
  have HP : Hid (Half w W2 A G n (upd f j x) 2 j x y v) := Lib.hid (by rw [hW]; exact HO.out.word j x)
  clear HV HO HF b0 b1 b2 b3 b4 bf hW
  obtain ⟨b0, b1, b2, b3, b4, bf⟩ := HP.out.acc.cells
  obtain ⟨c0, c1, c2, c3, c4, cf⟩ := HP.out.ans.cells
  obtain ⟨s0, s1, s2, s3, s4, _⟩ := (HP.out.ans.put 2 j x y v).cells
  go_wp2_with fail
  refine bodyPost_ret (v := .tuple #[accV 2 j x y v, .bool true]) (by simp [results, Tryz.f190, go_sem, s0, s1, s2, s3, s4]) rfl ?_
  first | exact HP.out.post 2 j x y v true | (rw [hv] at HP; exact HP.out.post 2 j x y v true)
set_option maxHeartbeats 3200000 in
theorem Do_hit {A G n : Nat} {f : Nat → Int} {w : World} (hA : ArenaAt w A G n f) (j : Nat) (hj : j < n) (x y o : Int) (hx : f j = x) :
    Calls Tryz.prog 190 #[.pointer (some ⟨A, 0, none⟩), accV 3 j x y o] w (DoPost w A G n (upd f j y) (accV 3 j x y (f j)) true) := by
  have HF := Lib.hid (Half.begun hA 3 j x y o)
  have HN := Lib.hid (has_in HF.out.ar (i := j) (by omega))
  have HL := Lib.hid (Load_in HF.out.ar j hj)
  obtain ⟨b0, b1, b2, b3, b4, bf⟩ := HF.out.acc.cells
  clear hA
  generalize hv : f j = v at HL
  obtain rfl : v = x := hv.symm.trans hx
  go_enter Tryz.func190, Tryz.ntmps190
  go_wp2_with fail
  refine HN.out.mono ?_
  rintro e W ⟨rfl, hW⟩
  rw [hW] at HF HL
  clear HN b0 b1 b2 b3 b4 bf hW
  obtain ⟨b0, b1, b2, b3, b4, bf⟩ := HF.out.acc.cells
  go_wp2_with fail
  refine HL.out.mono ?_
  rintro e W1 ⟨rfl, rfl⟩
  have HO := Lib.hid (HF.out.old v)
  have HV := Lib.hid (Cas_was HO.out.ar j hj y hv)
  clear HL
  go_wp2_with fail
  refine HV.out.mono ?_
  rintro e W2 ⟨rfl, hW⟩
  have HP : Hid (Half w W2 A G n (upd f j y) 3 j v y v) := Lib.hid (by rw [hW]; exact HO.out.word j y)
  clear HV HO HF b0 b1 b2 b3 b4 bf hW
  obtain ⟨b0, b1, b2, b3, b4, bf⟩ := HP.out.acc.cells
  obtain ⟨c0, c1, c2, c3, c4, cf⟩ := HP.out.ans.cells
  obtain ⟨s0, s1, s2, s3, s4, _⟩ := (HP.out.ans.put 3 j v y v).cells
  go_wp2_with fail
  refine bodyPost_ret (v := .tuple #[accV 3 j v y v, .bool true]) (by simp [results, Tryz.f190, go_sem, s0, s1, s2, s3, s4]) rfl ?_
  first | exact HP.out.post 3 j v y v true | (rw [hv] at HP; exact HP.out.post 3 j v y v true)
set_option maxHeartbeats 3200000 in
theorem Do_miss {A G n : Nat} {f : Nat → Int} {w : World} (hA : ArenaAt w A G n f) (j : Nat) (hj : j < n) (x y o : Int) (hx : ¬ f j = x) :
    Calls Tryz.prog 190 #[.pointer (some ⟨A, 0, none⟩), accV 3 j x y o] w (DoPost w A G n f (accV 3 j x y (f j)) true) := by
  have HF := Lib.hid (Half.begun hA 3 j x y o)
  have HN := Lib.hid (has_in HF.out.ar (i := j) (by omega))
  have HL := Lib.hid (Load_in HF.out.ar j hj)
  obtain ⟨b0, b1, b2, b3, b4, bf⟩ := HF.out.acc.cells
  clear hA
  generalize hv : f j = v at HL
  go_enter Tryz.func190, Tryz.ntmps190
  go_wp2_with fail
  refine HN.out.mono ?_
  rintro e W ⟨rfl, hW⟩
  rw [hW] at HF HL
  clear HN b0 b1 b2 b3 b4 bf hW
  obtain ⟨b0, b1, b2, b3, b4, bf⟩ := HF.out.acc.cells
  go_wp2_with fail
  refine HL.out.mono ?_
  rintro e W1 ⟨rfl, rfl⟩
  have HO := Lib.hid (HF.out.old v)
  have HV := Lib.hid (Cas_miss HO.out.ar j hj x y hx)
  clear HL
  go_wp2_with fail
  refine HV.out.mono ?_
  rintro e W2 ⟨rfl, hW⟩
  have HP : Hid (Half w W2 A G n f 3 j x y v) := Lib.hid (by rw [← hW]; exact HO.out)
  clear HV HO HF b0 b1 b2 b3 b4 bf hW
  obtain ⟨b0, b1, b2, b3, b4, bf⟩ := HP.out.acc.cells
  obtain ⟨c0, c1, c2, c3, c4, cf⟩ := HP.out.ans.cells
  obtain ⟨s0, s1, s2, s3, s4, _⟩ := (HP.out.ans.put 3 j x y v).cells
  go_wp2_with fail
  refine bodyPost_ret (v := .tuple #[accV 3 j x y v, .bool true]) (by simp [results, Tryz.f190, go_sem, s0, s1, s2, s3, s4]) rfl ?_
  first | exact HP.out.post 3 j x y v true | (rw [hv] at HP; exact HP.out.post 3 j x y v true)
set_option maxHeartbeats 3200000 in
theorem Do_add {A G n : Nat} {f : Nat → Int} {w : World} (hA : ArenaAt w A G n f) (j : Nat) (hj : j < n) (x y o : Int) (hu : U64 (f j)) :
    Calls Tryz.prog 190 #[.pointer (some ⟨A, 0, none⟩), accV 4 j x y o] w (DoPost w A G n (upd f j (sumW (f j) x)) (accV 4 j x y (f j)) true) := by
  have HF := Lib.hid (Half.begun hA 4 j x y o)
  have HN := Lib.hid (has_in HF.out.ar (i := j) (by omega))
  have HL := Lib.hid (Load_in HF.out.ar j hj)
  obtain ⟨b0, b1, b2, b3, b4, bf⟩ := HF.out.acc.cells
  clear hA
  generalize hv : f j = v at HL
  go_enter Tryz.func190, Tryz.ntmps190
  go_wp2_with fail
  refine HN.out.mono ?_
  rintro e W ⟨rfl, hW⟩
  rw [hW] at HF HL
  clear HN b0 b1 b2 b3 b4 bf hW
  obtain ⟨b0, b1, b2, b3, b4, bf⟩ := HF.out.acc.cells
  go_wp2_with fail
  refine HL.out.mono ?_
  rintro e W1 ⟨rfl, rfl⟩
  have HO := Lib.hid (HF.out.old v)
  have HV := Lib.hid (Add_in HO.out.ar j hj hu x)
  clear HL
  go_wp2_with fail
  refine HV.out.mono ?_
  rintro e W2 ⟨rfl, hW⟩
  have HP : Hid (Half w W2 A G n (upd f j (sumW (f j) x)) 4 j x y v) := Lib.hid (by rw [hW]; exact HO.out.word j _)
  clear HV HO HF b0 b1 b2 b3 b4 bf hW
  obtain ⟨b0, b1, b2, b3, b4, bf⟩ := HP.out.acc.cells
  obtain ⟨c0, c1, c2, c3, c4, cf⟩ := HP.out.ans.cells
  obtain ⟨s0, s1, s2, s3, s4, _⟩ := (HP.out.ans.put 4 j x y v).cells
  go_wp2_with fail
  refine bodyPost_ret (v := .tuple #[accV 4 j x y v, .bool true]) (by simp [results, Tryz.f190, go_sem, s0, s1, s2, s3, s4]) rfl ?_
  first | exact HP.out.post 4 j x y v true | (rw [hv] at HP; exact HP.out.post 4 j x y v true)
set_option maxHeartbeats 3200000 in
theorem Do_none {A G n : Nat} {f : Nat → Int} {w : World} (hA : ArenaAt w A G n f) (k : Int) (j : Nat) (hj : j < n) (x y o : Int) (hk : ¬ (1 ≤ k ∧ k ≤ 4)) :
    Calls Tryz.prog 190 #[.pointer (some ⟨A, 0, none⟩), accV k j x y o] w (DoPost w A G n f (accV 0 0 0 0 0) false) := by
  have HF := Lib.hid (Half.begun hA k j x y o)
  have HN := Lib.hid (has_in HF.out.ar (i := j) (by omega))
  have HL := Lib.hid (Load_in HF.out.ar j hj)
  have k1 : (k == 1) = false := by rw [beq_eq_false_iff_ne]; omega
  have k2 : (k == 2) = false := by rw [beq_eq_false_iff_ne]; omega
  have k3 : (k == 3) = false := by rw [beq_eq_false_iff_ne]; omega
  have k4 : (k == 4) = false := by rw [beq_eq_false_iff_ne]; omega
  clear hk
  obtain ⟨b0, b1, b2, b3, b4, bf⟩ := HF.out.acc.cells
  clear hA
  generalize hv : f j = v at HL
  go_enter Tryz.func190, Tryz.ntmps190
  go_wp2_with fail
  refine HN.out.mono ?_
  rintro e W ⟨rfl, hW⟩
  rw [hW] at HF HL
  clear HN b0 b1 b2 b3 b4 bf hW
  obtain ⟨b0, b1, b2, b3, b4, bf⟩ := HF.out.acc.cells
  go_wp2_with fail
  refine HL.out.mono ?_
  rintro e W1 ⟨rfl, rfl⟩
  have HO := Lib.hid (HF.out.old v)
  obtain ⟨c0, c1, c2, c3, c4, cf⟩ := HF.out.ans.cells
  obtain ⟨s0, s1, s2, s3, s4, _⟩ := (HO.out.ans.put 0 0 0 0 0).cells
  clear HL
  go_wp2_with fail
  refine bodyPost_ret (v := .tuple #[accV 0 0 0 0 0, .bool false]) (by simp [results, Tryz.f190, go_sem, s0, s1, s2, s3, s4]) rfl ?_
  first | exact HO.out.post 0 0 0 0 0 false | (rw [hv] at HO; exact HO.out.post 0 0 0 0 0 false)
end Go.Proofs.YtbpooljohjkbjaaGreatDoor
/- The document's Do over a row of words of one's own: an access at a place that is there, of each kind; of no kind; at a place that isn't there. -/
namespace Go.Proofs.YtbpooljohjkbjaaGreatDoor
open Go Go.RowKit
set_option maxRecDepth 100000
theorem Do_good {A G n : Nat} {f : Nat → Int} {w : World} (hA : ArenaAt w A G n f) (k : Int) (j : Nat) (hj : j < n) (x y o : Int) (hk : 1 ≤ k ∧ k ≤ 4) (hu : U64 (f j)) :
    Calls Tryz.prog 190 #[.pointer (some ⟨A, 0, none⟩), accV k j x y o] w (DoPost w A G n (doF f k j x y) (accV k j x y (f j)) true) := by
  obtain rfl | rfl | rfl | rfl : k = 1 ∨ k = 2 ∨ k = 3 ∨ k = 4 := by omega
  · exact Do_load hA j hj x y o
  · exact Do_store hA j hj x y o
  · by_cases hx : f j = x
    · rw [show doF f 3 j x y = upd f j y by unfold doF; rw [if_neg (by decide), if_pos rfl, if_pos hx]]
      exact Do_hit hA j hj x y o hx
    · rw [show doF f 3 j x y = f by unfold doF; rw [if_neg (by decide), if_pos rfl, if_neg hx]]
      exact Do_miss hA j hj x y o hx
  · exact Do_add hA j hj x y o hu
theorem Do_bad {A G n : Nat} {f : Nat → Int} {w : World} (hA : ArenaAt w A G n f) (k i x y o : Int) (h : ¬ (1 ≤ k ∧ k ≤ 4 ∧ 0 ≤ i ∧ i < n)) :
    Calls Tryz.prog 190 #[.pointer (some ⟨A, 0, none⟩), accV k i x y o] w (DoPost w A G n f (accV 0 0 0 0 0) false) := by
  by_cases hi : 0 ≤ i ∧ i < n
  · obtain ⟨j, rfl⟩ : ∃ j : Nat, i = j := ⟨i.toNat, by omega⟩
    exact Do_none hA k j (by omega) x y o (by omega)
  · exact (Do_out k i x y o (fun W hW => noPlace_out (hA.below hW) hi)).mono fun e w' ⟨h1, h2⟩ => ⟨h1, hA.below h2, .of h2⟩
end Go.Proofs.YtbpooljohjkbjaaGreatDoor
/- An arena and a row of words of one's own, side by side: what is done to the one leaves the other alone. -/
namespace Go.Proofs.YtbpooljohjkbjaaGreatDoor
open Go Go.RowKit
set_option maxRecDepth 100000
namespace Play
variable {w wr W : World} {A G : Nat} {a : Option Addr} {n N M : Nat} {f f' h h' : Nat → Int}
end Play
end Go.Proofs.YtbpooljohjkbjaaGreatDoor
/- A hand on memory: package hand's note, Load, Store, Cas, Add and Clear, for a hand and for a nil one, at every place: what is answered, the access that is noted, and all words then. -/
namespace Go.Proofs.YtbpooljohjkbjaaGreatDoor
open Go Go.RowKit
set_option maxRecDepth 100000
attribute [local go_sem ↓] Go.wp_at_zero Go.wp_at_succ
def okD (n : Nat) (k i : Int) : Prop := 1 ≤ k ∧ k ≤ 4 ∧ 0 ≤ i ∧ i < n
instance (n : Nat) (k i : Int) : Decidable (okD n k i) := by unfold okD; infer_instance
def z5 (n : Nat) (k i v : Int) : Int := if okD n k i then v else 0
def wordsQ (n : Nat) (f : Nat → Int) (k i x y : Int) : Nat → Int := if okD n k i then doF f k i.toNat x y else f
theorem Do_any {A G n : Nat} {f : Nat → Int} {w : World} (hA : ArenaAt w A G n f) (hu : ∀ j, U64 (f j)) (k i x y o : Int) :
    Calls Tryz.prog 190 #[.pointer (some ⟨A, 0, none⟩), accV k i x y o] w (DoPost w A G n (wordsQ n f k i x y) (accV (z5 n k i k) (z5 n k i i) (z5 n k i x) (z5 n k i y) (z5 n k i (f i.toNat))) (decide (okD n k i))) := by
  unfold wordsQ z5
  by_cases h : okD n k i
  · simp only [if_pos h, decide_eq_true h]
    obtain ⟨j, rfl⟩ : ∃ j : Nat, i = j := ⟨i.toNat, by unfold okD at h; omega⟩
    simp only [Int.toNat_natCast]
    unfold okD at h
    exact Do_good hA k j (by omega) x y o (by omega) (hu j)
  · simp only [if_neg h, decide_eq_false h]
    exact Do_bad hA k i x y o h
structure Sav (S : Nat → Prop) (w w' : World) : Prop where
  os : w'.os = w.os
  tape : w'.tape = w.tape
  output : w'.output = w.output
  size : w.heap.size ≤ w'.heap.size
  block : ∀ k, k < w.heap.size → ¬ S k → w'.heap[k]? = w.heap[k]?
namespace Sav
variable {S S' : Nat → Prop} {w w' w'' : World}
theorem of (h : Below w.heap.size w w') : Sav S w w' := ⟨h.os, h.tape, h.output, h.size, fun k hk _ => h.block k hk⟩
theorem trans (h : Sav S w w') (k : Sav S w' w'') : Sav S w w'' :=
  ⟨k.os.trans h.os, k.tape.trans h.tape, k.output.trans h.output, Nat.le_trans h.size k.size, fun i hi hg => (k.block i (by have := h.size; omega) hg).trans (h.block i hi hg)⟩
theorem mono (h : Sav S w w') (hs : ∀ k, S k → S' k) : Sav S' w w' := ⟨h.os, h.tape, h.output, h.size, fun k hk hn => h.block k hk (fun e => hn (hs k e))⟩
theorem set (h : Sav S w w') {p : Addr} (hp : S p.block ∨ w.heap.size ≤ p.block) (v : Value) : Sav S w (w'.setCell p v) :=
  ⟨h.os, h.tape, h.output, by have := h.size; simpa [World.setCell] using this, fun k hk hg => (Below.heap_setCell _ _ _ _ (fun e => by
    rcases hp with hp | hp
    · exact hg (e ▸ hp)
    · omega)).trans (h.block k hk hg)⟩
theorem below (h : Sav S w w') {B : Nat} (h1 : B ≤ w.heap.size) (h2 : ∀ k, k < B → ¬ S k) : Below B w w' := ⟨h.os, h.tape, h.output, h.size, fun k hk => h.block k (by omega) (h2 k hk)⟩
theorem put (h : Sav S w w') {C : Nat} (hC : S C ∨ w.heap.size ≤ C) (k i x y o : Int) : Sav S w (put5 w' C k i x y o) :=
  ((((h.set (p := ⟨C, 0, none⟩) hC _).set (p := ⟨C, 1, none⟩) hC _).set (p := ⟨C, 2, none⟩) hC _).set (p := ⟨C, 3, none⟩) hC _).set (p := ⟨C, 4, none⟩) hC _
end Sav
theorem Only.sav {G : Nat} {w w' : World} (h : Only G w w') {S : Nat → Prop} (hs : S G) : Sav S w w' := ⟨h.os, h.tape, h.output, h.size, fun k hk hn => h.block k hk (fun e => hn (e ▸ hs))⟩
def HG (H G : Nat) : Nat → Prop := fun k => k = H ∨ k = G
def MapAt (w : World) (H : Nat) (a b c d : Int) : Prop := w.cell? ⟨H, 1, none⟩ = some (.int .i64 a) ∧ w.cell? ⟨H, 2, none⟩ = some (.int .i64 b) ∧ w.cell? ⟨H, 3, none⟩ = some (.int .i64 c) ∧ w.cell? ⟨H, 4, none⟩ = some (.int .i64 d)
structure HandAt (w : World) (H A G n : Nat) (f : Nat → Int) (a b c d k i x y o : Int) : Prop where
  nA : H ≠ A
  nG : H ≠ G
  box : w.heap[H]? = some (.cells #[.pointer (some ⟨A, 0, none⟩), .int .i64 a, .int .i64 b, .int .i64 c, .int .i64 d, .int .i64 k, .int .i64 i, .int .u64 x, .int .u64 y, .int .u64 o] 90 (0, 0))
  ar : ArenaAt w A G n f
abbrev putH (w : World) (H : Nat) (k i x y o : Int) : World := ((((w.setCell ⟨H, 5, none⟩ (.int .i64 k)).setCell ⟨H, 6, none⟩ (.int .i64 i)).setCell ⟨H, 7, none⟩ (.int .u64 x)).setCell ⟨H, 8, none⟩ (.int .u64 y)).setCell ⟨H, 9, none⟩ (.int .u64 o)
theorem Sav.putH {S : Nat → Prop} {w w' : World} (h : Sav S w w') {C : Nat} (hC : S C ∨ w.heap.size ≤ C) (k i x y o : Int) : Sav S w (putH w' C k i x y o) :=
  ((((h.set (p := ⟨C, 5, none⟩) hC _).set (p := ⟨C, 6, none⟩) hC _).set (p := ⟨C, 7, none⟩) hC _).set (p := ⟨C, 8, none⟩) hC _).set (p := ⟨C, 9, none⟩) hC _
theorem heap_putH (w : World) (H : Nat) (k i x y o : Int) {B : Nat} (hB : B ≠ H) : (putH w H k i x y o).heap[B]? = w.heap[B]? :=
  (Below.heap_setCell _ _ _ _ hB).trans ((Below.heap_setCell _ _ _ _ hB).trans ((Below.heap_setCell _ _ _ _ hB).trans ((Below.heap_setCell _ _ _ _ hB).trans (Below.heap_setCell _ _ _ _ hB))))
theorem heap_put5 (w : World) (H : Nat) (k i x y o : Int) {B : Nat} (hB : B ≠ H) : (put5 w H k i x y o).heap[B]? = w.heap[B]? :=
  (Below.heap_setCell _ _ _ _ hB).trans ((Below.heap_setCell _ _ _ _ hB).trans ((Below.heap_setCell _ _ _ _ hB).trans ((Below.heap_setCell _ _ _ _ hB).trans (Below.heap_setCell _ _ _ _ hB))))
namespace HandAt
variable {w w' : World} {H A G n : Nat} {f f' : Nat → Int} {a b c d k i x y o : Int}
theorem cells (h : HandAt w H A G n f a b c d k i x y o) : w.cell? ⟨H, 0, none⟩ = some (.pointer (some ⟨A, 0, none⟩)) ∧ MapAt w H a b c d ∧ w.cell? ⟨H, 5, none⟩ = some (.int .i64 k) ∧ w.cell? ⟨H, 6, none⟩ = some (.int .i64 i) ∧ w.cell? ⟨H, 7, none⟩ = some (.int .u64 x) ∧ w.cell? ⟨H, 8, none⟩ = some (.int .u64 y) ∧ w.cell? ⟨H, 9, none⟩ = some (.int .u64 o) ∧ (∀ j, w.frozen? ⟨H, j, none⟩ = false) := by
  have h := h.box
  refine ⟨by simp [World.cell?, h], ⟨by simp [World.cell?, h], by simp [World.cell?, h], by simp [World.cell?, h], by simp [World.cell?, h]⟩, by simp [World.cell?, h], by simp [World.cell?, h], by simp [World.cell?, h], by simp [World.cell?, h], by simp [World.cell?, h], fun j => by simp [World.frozen?, h]⟩
theorem lt (h : HandAt w H A G n f a b c d k i x y o) : H < w.heap.size := (Array.getElem?_eq_some_iff.1 h.box).1
theorem other (h : HandAt w H A G n f a b c d k i x y o) (e1 : w'.heap[H]? = w.heap[H]?) (e2 : w'.heap[A]? = w.heap[A]?) (e3 : w'.heap[G]? = w.heap[G]?) : HandAt w' H A G n f a b c d k i x y o := ⟨h.nA, h.nG, e1.trans h.box, h.ar.other e2 e3⟩
theorem below (h : HandAt w H A G n f a b c d k i x y o) (hb : Below w.heap.size w w') : HandAt w' H A G n f a b c d k i x y o := h.other (hb.block _ h.lt) (hb.block _ h.ar.lt) (hb.block _ h.ar.row.lt)
theorem drew (h : HandAt w H A G n f a b c d k i x y o) : HandAt w.drew H A G n f a b c d k i x y o := ⟨h.nA, h.nG, h.box, h.ar.other rfl rfl⟩
theorem act (h : HandAt w H A G n f a b c d k i x y o) (ho : Only G w w') (ha : ArenaAt w' A G n f') : HandAt w' H A G n f' a b c d k i x y o := ⟨h.nA, h.nG, (ho.block H h.lt h.nG).trans h.box, ha⟩
theorem put (h : HandAt w H A G n f a b c d k i x y o) {C : Nat} (h0 : C ≠ H) (h1 : C ≠ A) (h2 : C ≠ G) (k' i' x' y' o' : Int) : HandAt (put5 w C k' i' x' y' o') H A G n f a b c d k i x y o :=
  h.other (heap_put5 _ _ _ _ _ _ _ h0.symm) (heap_put5 _ _ _ _ _ _ _ h1.symm) (heap_put5 _ _ _ _ _ _ _ h2.symm)
theorem note (h : HandAt w H A G n f a b c d k i x y o) (k' i' x' y' o' : Int) : HandAt (putH w H k' i' x' y' o') H A G n f a b c d k' i' x' y' o' := by
  refine ⟨h.nA, h.nG, ?_, h.ar.other (heap_putH _ _ _ _ _ _ _ h.nA.symm) (heap_putH _ _ _ _ _ _ _ h.nG.symm)⟩
  have h := h.box
  simp [World.setCell, Array.getElem?_modify, h]
end HandAt
def NotePost (w : World) (H A G n : Nat) (f' : Nat → Int) (a b c d k i x y o : Int) (r : Bool) (e : Ending) (w' : World) : Prop :=
  e = .returned (.tuple #[accV k i x y o, .bool r]) ∧ HandAt w' H A G n f' a b c d k i x y o ∧ Sav (HG H G) w w'
def HPost (w : World) (H A G n : Nat) (f' : Nat → Int) (a b c d k i x y o : Int) (v : Value) (e : Ending) (w' : World) : Prop :=
  e = .returned v ∧ HandAt w' H A G n f' a b c d k i x y o ∧ Sav (HG H G) w w'
set_option maxHeartbeats 3200000 in
theorem note_c {H A G n : Nat} {f : Nat → Int} {a b c d k0 i0 x0 y0 o0 : Int} {w : World} (hH : HandAt w H A G n f a b c d k0 i0 x0 y0 o0) (hu : ∀ j, U64 (f j)) (k i x y o : Int) :
    Calls Tryz.prog 168 #[.pointer (some ⟨H, 0, none⟩), accV k i x y o] w (NotePost w H A G n (wordsQ n f k i x y) a b c d (z5 n k i k) (z5 n k i i) (z5 n k i x) (z5 n k i y) (z5 n k i (f i.toNat)) (decide (okD n k i))) := by
  have HD : Hid (∀ W, ArenaAt W A G n f → _) := Lib.hid (fun W hW => Do_any (w := W) hW hu k i x y o)
  have HF := Lib.hid (hH.below (begun_below w k i x y o)).drew
  have hX : Acc5 (begun w k i x y o).drew w.heap.size k i x y o := begun_acc w k i x y o
  have hY : Acc5 (begun w k i x y o).drew (w.heap.size + 1) 0 0 0 0 0 := begun_ans w k i x y o
  have HQ : Hid (Sav (HG H G) w (begun w k i x y o).drew) := Lib.hid (Sav.of (begun_below w k i x y o).drew)
  have hlt : H < w.heap.size := hH.lt
  have hltA : A < w.heap.size := hH.ar.lt
  have hltG : G < w.heap.size := hH.ar.row.lt
  generalize wordsQ n f k i x y = f' at *
  generalize decide (okD n k i) = r at *
  generalize z5 n k i k = K1 at *
  generalize z5 n k i i = I1 at *
  generalize z5 n k i x = X1 at *
  generalize z5 n k i y = Y1 at *
  generalize z5 n k i (f i.toNat) = O1 at *
  clear hH hu
  obtain ⟨h0, _, h5, h6, h7, h8, h9, hf⟩ := HF.out.cells
  obtain ⟨b0, b1, b2, b3, b4, bf⟩ := hX.cells
  have hnB : H ≠ w.heap.size := by omega
  have hnC : H ≠ w.heap.size + 1 := by omega
  have HX := Lib.hid hX; have HY := Lib.hid hY; clear hX hY
  go_enter Tryz.func168, Tryz.ntmps168
  go_wp2_with fail
  clear h5 h6 h7 h8 h9 hf bf
  refine wp_region_noPanic ?_
  refine wp_region_held_drew (S := (fun w' => w'.cell? ⟨H, 0, none⟩ = some (.pointer (some ⟨A, 0, none⟩)) ∧ w'.cell? ⟨w.heap.size, 0, none⟩ = some (.int .i64 k) ∧ w'.cell? ⟨w.heap.size, 1, none⟩ = some (.int .i64 i) ∧ w'.cell? ⟨w.heap.size, 2, none⟩ = some (.int .u64 x) ∧ w'.cell? ⟨w.heap.size, 3, none⟩ = some (.int .u64 y) ∧ w'.cell? ⟨w.heap.size, 4, none⟩ = some (.int .u64 o))) (by kernel_rfl) ?_ (fun hHeld => ?_)
  · exact ⟨h0, b0, b1, b2, b3, b4⟩
  refine tk 0 rfl hHeld ?_
  refine tk 1 rfl hHeld ?_
  refine tk 2 rfl hHeld ?_
  refine tk 3 rfl hHeld ?_
  refine tk 4 rfl hHeld ?_
  refine tk 5 rfl hHeld ?_
  refine wpAnyH_ready (rs := [6]) (by kernel_rfl) (by simp) ?_
  refine AllReadyH.cons (o := _) rfl (fun K hK => ?_) AllReadyH.nil
  go_simp
  refine (HD.out _ HF.out.ar).mono ?_
  rintro e V ⟨rfl, hA, ho⟩
  have HF1 := Lib.hid (HF.out.act ho hA)
  have HX1 := Lib.hid (HX.out.other (ho.block _ HX.out.lt (by omega)))
  have HY1 := Lib.hid (HY.out.other (ho.block _ HY.out.lt (by omega)))
  have HQ1 := Lib.hid (HQ.out.trans (ho.sav (S := HG H G) (.inr rfl)))
  clear hA ho HF HX HY HQ HD h0 b0 b1 b2 b3 b4 hHeld
  obtain ⟨h0, _, h5, h6, h7, h8, h9, hf⟩ := HF1.out.cells
  obtain ⟨b0, b1, b2, b3, b4, bf⟩ := HX1.out.cells
  refine hK.out _ _ ?_ (fun hHeld => ?_)
  · exact ⟨h0, b0, b1, b2, b3, b4⟩
  clear hK K
  try simp only [Act.put, List.setIfInBounds_toArray, List.set_cons_zero, List.set_cons_succ]
  refine tk 7 rfl hHeld ?_
  refine tk 8 rfl hHeld ?_
  refine tk 9 rfl hHeld ?_
  refine tk 10 rfl hHeld ?_
  refine tk 11 rfl hHeld ?_
  refine wpAnyH_ready (rs := [12]) (by kernel_rfl) (by simp) ?_
  refine AllReadyH.cons (o := _) rfl (fun K hK => ?_) AllReadyH.nil
  go_simp
  obtain ⟨g0, _⟩ := (HF1.out.note K1 I1 X1 Y1 O1).cells
  obtain ⟨e0, e1, e2, e3, e4, _⟩ := (HX1.out.other (heap_putH V H K1 I1 X1 Y1 O1 (by omega))).cells
  refine hK.out _ _ ?_ (fun hHeld => ?_)
  · exact ⟨g0, e0, e1, e2, e3, e4⟩
  clear hK K
  try simp only [Act.put, List.setIfInBounds_toArray, List.set_cons_zero, List.set_cons_succ]
  refine tk 13 rfl hHeld ?_
  refine wpAnyH_done (by kernel_rfl) ?_ _
  refine NoPanic.normal ?_
  clear hHeld
  have HF2 := Lib.hid (HF1.out.note K1 I1 X1 Y1 O1)
  obtain ⟨g0, _, g5, g6, g7, g8, g9, gf⟩ := HF2.out.cells
  have HY2 : Hid (Acc5 (putH V H K1 I1 X1 Y1 O1) (w.heap.size + 1) 0 0 0 0 0) := Lib.hid (HY1.out.other (heap_putH _ _ _ _ _ _ _ (by omega)))
  have HQ2 := Lib.hid (HQ1.out.putH (C := H) (.inl (.inl rfl)) K1 I1 X1 Y1 O1)
  clear HF1 HX1 HY1 HQ1 h0 h5 h6 h7 h8 h9 hf b0 b1 b2 b3 b4 bf
  obtain ⟨c0, c1, c2, c3, c4, cf⟩ := HY2.out.cells
  obtain ⟨s0, s1, s2, s3, s4, _⟩ := (HY2.out.put K1 I1 X1 Y1 O1).cells
  go_wp2_with fail
  refine bodyPost_ret (v := .tuple #[accV K1 I1 X1 Y1 O1, .bool r]) (by simp [results, Tryz.f168, go_sem, s0, s1, s2, s3, s4]) rfl ?_
  exact ⟨rfl, HF2.out.put (by omega) (by omega) (by omega) _ _ _ _ _, HQ2.out.put (C := w.heap.size + 1) (.inr (by omega)) _ _ _ _ _⟩
end Go.Proofs.YtbpooljohjkbjaaGreatDoor
/- Four numbers in one block: the cells, a store into one or into all four, what is left alone. -/
namespace Go.Proofs.YtbpooljohjkbjaaGreatDoor
open Go Go.RowKit
set_option maxRecDepth 100000
def Arr4 (w : World) (B : Nat) (t : TypeId) (x0 x1 x2 x3 : Int) : Prop := w.heap[B]? = some (.cells #[.int .i64 x0, .int .i64 x1, .int .i64 x2, .int .i64 x3] t (0, 0))
theorem Arr4.cells {w : World} {B : Nat} {t : TypeId} {x0 x1 x2 x3 : Int} (h : Arr4 w B t x0 x1 x2 x3) :
    w.cell? ⟨B, 0, none⟩ = some (.int .i64 x0) ∧ w.cell? ⟨B, 1, none⟩ = some (.int .i64 x1) ∧ w.cell? ⟨B, 2, none⟩ = some (.int .i64 x2) ∧ w.cell? ⟨B, 3, none⟩ = some (.int .i64 x3) ∧ (∀ j, w.frozen? ⟨B, j, none⟩ = false) := by
  unfold Arr4 at h
  refine ⟨by simp [World.cell?, h], by simp [World.cell?, h], by simp [World.cell?, h], by simp [World.cell?, h], fun j => by simp [World.frozen?, h]⟩
theorem Arr4.lt {w : World} {B : Nat} {t : TypeId} {x0 x1 x2 x3 : Int} (h : Arr4 w B t x0 x1 x2 x3) : B < w.heap.size := lt_of_cell h.cells.1
theorem Arr4.set {w : World} {B : Nat} {t : TypeId} {x0 x1 x2 x3 : Int} (h : Arr4 w B t x0 x1 x2 x3) (y : Int) :
    Arr4 (w.setCell ⟨B, 0, none⟩ (.int .i64 y)) B t y x1 x2 x3 ∧ Arr4 (w.setCell ⟨B, 1, none⟩ (.int .i64 y)) B t x0 y x2 x3 ∧ Arr4 (w.setCell ⟨B, 2, none⟩ (.int .i64 y)) B t x0 x1 y x3 ∧ Arr4 (w.setCell ⟨B, 3, none⟩ (.int .i64 y)) B t x0 x1 x2 y := by
  unfold Arr4 at *
  refine ⟨?_, ?_, ?_, ?_⟩ <;> simp [World.setCell, Array.getElem?_modify, h]
theorem Arr4.other {w w' : World} {B : Nat} {t : TypeId} {x0 x1 x2 x3 : Int} (h : Arr4 w B t x0 x1 x2 x3) (e : w'.heap[B]? = w.heap[B]?) : Arr4 w' B t x0 x1 x2 x3 := e.trans h
theorem Arr4.set4 {w : World} {B : Nat} {t : TypeId} {x0 x1 x2 x3 : Int} (h : Arr4 w B t x0 x1 x2 x3) (y0 y1 y2 y3 : Int) :
    Arr4 ((((w.setCell ⟨B, 0, none⟩ (.int .i64 y0)).setCell ⟨B, 1, none⟩ (.int .i64 y1)).setCell ⟨B, 2, none⟩ (.int .i64 y2)).setCell ⟨B, 3, none⟩ (.int .i64 y3)) B t y0 y1 y2 y3 :=
  ((((h.set y0).1.set y1).2.1.set y2).2.2.1.set y3).2.2.2
theorem Arr4.new (w : World) (t : TypeId) (x0 x1 x2 x3 : Int) : Arr4 (w.alloc (.cells #[.int .i64 x0, .int .i64 x1, .int .i64 x2, .int .i64 x3] t)) w.heap.size t x0 x1 x2 x3 := by
  unfold Arr4 World.alloc; exact Array.getElem?_push_size
theorem Arr4.below {w w' : World} {B : Nat} {t : TypeId} {x0 x1 x2 x3 : Int} (h : Arr4 w B t x0 x1 x2 x3) (hb : Below w.heap.size w w') : Arr4 w' B t x0 x1 x2 x3 := h.other (hb.block _ h.lt)
theorem below_far4 {w w' : World} {B C : Nat} (h : Below B w w') (hC : B ≤ C) (y0 y1 y2 y3 : Value) :
    Below B w ((((w'.setCell ⟨C, 0, none⟩ y0).setCell ⟨C, 1, none⟩ y1).setCell ⟨C, 2, none⟩ y2).setCell ⟨C, 3, none⟩ y3) :=
  (((h.setCell hC _).setCell hC _).setCell hC _).setCell hC _
end Go.Proofs.YtbpooljohjkbjaaGreatDoor
