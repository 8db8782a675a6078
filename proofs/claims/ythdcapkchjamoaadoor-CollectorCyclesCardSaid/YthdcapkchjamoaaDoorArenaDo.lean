/- Package arena's Do: an access at a place that is there, of each kind; of no kind; at a place that isn't there. -/
import Derived.Test.YthdcapkchjamoaaDoorArenaRows
namespace Go.Proofs.YthdcapkchjamoaaDoor
open Go Go.RowKit
set_option maxRecDepth 100000

/-- An access lies in block B. -/
def Acc5 (w : World) (B : Nat) (k i x y o : Int) : Prop := w.heap[B]? = some (.cells #[.int .i64 k, .int .i64 i, .int .u64 x, .int .u64 y, .int .u64 o] 49 (0, 0))
namespace Acc5
variable {w w' : World} {B : Nat} {k i x y o : Int}
theorem cells (h : Acc5 w B k i x y o) : w.cell? ⟨B, 0, none⟩ = some (.int .i64 k) ∧ w.cell? ⟨B, 1, none⟩ = some (.int .i64 i) ∧ w.cell? ⟨B, 2, none⟩ = some (.int .u64 x) ∧ w.cell? ⟨B, 3, none⟩ = some (.int .u64 y) ∧ w.cell? ⟨B, 4, none⟩ = some (.int .u64 o) ∧ (∀ j, w.frozen? ⟨B, j, none⟩ = false) := by
  unfold Acc5 at h
  refine ⟨by simp [World.cell?, h], by simp [World.cell?, h], by simp [World.cell?, h], by simp [World.cell?, h], by simp [World.cell?, h], fun j => by simp [World.frozen?, h]⟩
theorem lt (h : Acc5 w B k i x y o) : B < w.heap.size := (Array.getElem?_eq_some_iff.1 h).1
theorem other (h : Acc5 w B k i x y o) (e : w'.heap[B]? = w.heap[B]?) : Acc5 w' B k i x y o := e.trans h
theorem below (h : Acc5 w B k i x y o) (hb : Below w.heap.size w w') : Acc5 w' B k i x y o := h.other (hb.block _ h.lt)
theorem setOther (h : Acc5 w B k i x y o) {p : Addr} (hp : B ≠ p.block) (v : Value) : Acc5 (w.setCell p v) B k i x y o := h.other (Below.heap_setCell _ _ _ _ hp)
theorem set4 (h : Acc5 w B k i x y o) (z : Int) : Acc5 (w.setCell ⟨B, 4, none⟩ (.int .u64 z)) B k i x y z := by
  unfold Acc5 at *; simp [World.setCell, Array.getElem?_modify, h]
theorem new (w : World) (k i x y o : Int) : Acc5 (w.alloc (.cells #[.int .i64 k, .int .i64 i, .int .u64 x, .int .u64 y, .int .u64 o] 49)) w.heap.size k i x y o := newBlock _ _
end Acc5
abbrev put5 (w : World) (C : Nat) (k i x y o : Int) : World := ((((w.setCell ⟨C, 0, none⟩ (.int .i64 k)).setCell ⟨C, 1, none⟩ (.int .i64 i)).setCell ⟨C, 2, none⟩ (.int .u64 x)).setCell ⟨C, 3, none⟩ (.int .u64 y)).setCell ⟨C, 4, none⟩ (.int .u64 o)
theorem Acc5.put {w : World} {C : Nat} {k i x y o : Int} (h : Acc5 w C k i x y o) (k' i' x' y' o' : Int) : Acc5 (put5 w C k' i' x' y' o') C k' i' x' y' o' := by
  unfold Acc5 at *; simp [World.setCell, Array.getElem?_modify, h]
/-- Of what was there nothing has turned but block G. -/
structure Only (G : Nat) (w w' : World) : Prop where
  os : w'.os = w.os
  tape : w'.tape = w.tape
  output : w'.output = w.output
  size : w.heap.size ≤ w'.heap.size
  block : ∀ k, k < w.heap.size → k ≠ G → w'.heap[k]? = w.heap[k]?
theorem Only.of {G : Nat} {w w' : World} (h : Below w.heap.size w w') : Only G w w' := ⟨h.os, h.tape, h.output, h.size, fun k hk _ => h.block k hk⟩
theorem Only.trans {G : Nat} {a b c : World} (h : Only G a b) (k : Only G b c) : Only G a c :=
  ⟨k.os.trans h.os, k.tape.trans h.tape, k.output.trans h.output, Nat.le_trans h.size k.size, fun i hi hg => (k.block i (by have := h.size; omega) hg).trans (h.block i hi hg)⟩
theorem Only.set {G : Nat} {a w : World} (h : Only G a w) {p : Addr} (hp : p.block = G ∨ a.heap.size ≤ p.block) (v : Value) : Only G a (w.setCell p v) :=
  ⟨h.os, h.tape, h.output, by have := h.size; simpa [World.setCell] using this, fun k hk hg => (Below.heap_setCell _ _ _ _ (by omega)).trans (h.block k hk hg)⟩
theorem Only.put {G : Nat} {a w : World} (h : Only G a w) {C : Nat} (hC : a.heap.size ≤ C) (k i x y o : Int) : Only G a (put5 w C k i x y o) :=
  ((((h.set (p := ⟨C, 0, none⟩) (.inr hC) _).set (p := ⟨C, 1, none⟩) (.inr hC) _).set (p := ⟨C, 2, none⟩) (.inr hC) _).set (p := ⟨C, 3, none⟩) (.inr hC) _).set (p := ⟨C, 4, none⟩) (.inr hC) _
theorem Only.below {G B : Nat} {w w' : World} (h : Only G w w') (h1 : B ≤ w.heap.size) (h2 : B ≤ G) : Below B w w' := ⟨h.os, h.tape, h.output, h.size, fun k hk => h.block k (by omega) (by omega)⟩
theorem ArenaAt.put {w : World} {A G n : Nat} {f : Nat → Int} (h : ArenaAt w A G n f) {C : Nat} (h1 : C ≠ A) (h2 : C ≠ G) (k i x y o : Int) : ArenaAt (put5 w C k i x y o) A G n f :=
  ((((h.setOther (p := ⟨C, 0, none⟩) h1 h2 _).setOther (p := ⟨C, 1, none⟩) h1 h2 _).setOther (p := ⟨C, 2, none⟩) h1 h2 _).setOther (p := ⟨C, 3, none⟩) h1 h2 _).setOther (p := ⟨C, 4, none⟩) h1 h2 _
abbrev accV (k i x y o : Int) : Value := .agg #[.int .i64 k, .int .i64 i, .int .u64 x, .int .u64 y, .int .u64 o]
/-- How it is when Do begins: the access lies in block B, the answer in block C. -/
abbrev begun (w : World) (k i x y o : Int) : World := (w.alloc (.cells #[.int .i64 k, .int .i64 i, .int .u64 x, .int .u64 y, .int .u64 o] 49)).alloc (.cells #[.int .i64 0, .int .i64 0, .int .u64 0, .int .u64 0, .int .u64 0] 49)
theorem begun_acc (w : World) (k i x y o : Int) : Acc5 (begun w k i x y o) w.heap.size k i x y o := (Acc5.new w k i x y o).below (below_new _ _)
theorem begun_ans (w : World) (k i x y o : Int) : Acc5 (begun w k i x y o) (w.heap.size + 1) 0 0 0 0 0 := by
  have := Acc5.new (w.alloc (.cells #[.int .i64 k, .int .i64 i, .int .u64 x, .int .u64 y, .int .u64 o] 49)) 0 0 0 0 0
  simpa using this
theorem begun_below (w : World) (k i x y o : Int) : Below w.heap.size w (begun w k i x y o) := below_on (below_new _ _) _
set_option maxHeartbeats 1600000 in
theorem Do_out {w : World} {p : Option Addr} (k i x y o : Int) (h : ∀ W, Below w.heap.size w W → NoPlace W (.pointer p) i) :
    Calls Tryd.prog 79 #[.pointer p, accV k i x y o] w fun e w' => e = .returned (.tuple #[accV 0 0 0 0 0, .bool false]) ∧ Below w.heap.size w w' := by
  have HN := Lib.hid (h _ (begun_below w k i x y o)); clear h
  obtain ⟨b0, b1, b2, b3, b4, bf⟩ := (begun_acc w k i x y o).cells
  go_enter Tryd.func79, Tryd.ntmps79
  go_wp2_with fail
  refine HN.out.mono ?_
  rintro e W ⟨rfl, hW⟩
  have HC : Hid (Acc5 W (w.heap.size + 1) 0 0 0 0 0) := Lib.hid (by rw [← hW]; exact begun_ans w k i x y o)
  have HB : Hid (Below w.heap.size w W) := Lib.hid (by rw [← hW]; exact begun_below w k i x y o)
  clear HN hW b0 b1 b2 b3 b4 bf
  obtain ⟨c0, c1, c2, c3, c4, cf⟩ := HC.out.cells
  obtain ⟨s0, s1, s2, s3, s4, _⟩ := (HC.out.put 0 0 0 0 0).cells
  go_wp2_with fail
  refine bodyPost_ret (v := .tuple #[accV 0 0 0 0 0, .bool false]) (by simp [results, Tryd.f79, go_sem, s0, s1, s2, s3, s4]) rfl ?_
  exact ⟨rfl, ((Only.of (G := w.heap.size) HB.out).put (by omega) _ _ _ _ _).below (Nat.le_refl _) (Nat.le_refl _)⟩
theorem Cas_was {A G n : Nat} {f : Nat → Int} {w : World} (hA : ArenaAt w A G n f) (k : Nat) (hk : k < n) (y : Int) {x : Int} (hx : f k = x) :
    Calls Tryd.prog 81 #[.pointer (some ⟨A, 0, none⟩), .int .i64 k, .int .u64 x, .int .u64 y] w fun e w' => e = .returned (.bool true) ∧ w' = w.setCell ⟨G, k, none⟩ (.int .u64 y) := by
  have h := Cas_hit hA k hk y; rwa [hx] at h
/-- What an access at a place that is there leaves. -/
def doF (f : Nat → Int) (k : Int) (j : Nat) (x y : Int) : Nat → Int :=
  if k = 2 then upd f j x else if k = 3 then (if f j = x then upd f j y else f) else if k = 4 then upd f j (sumW (f j) x) else f
/-- What Do answers at a place that is there. -/
def DoPost (w : World) (A G n : Nat) (f' : Nat → Int) (v : Value) (b : Bool) (e : Ending) (w' : World) : Prop := e = .returned (.tuple #[v, .bool b]) ∧ ArenaAt w' A G n f' ∧ Only G w w'
/-- How it is behind the load: Old is laid down. -/
structure Half (w W : World) (A G n : Nat) (f : Nat → Int) (k i x y o : Int) : Prop where
  only : Only G w W
  ar : ArenaAt W A G n f
  acc : Acc5 W w.heap.size k i x y o
  ans : Acc5 W (w.heap.size + 1) 0 0 0 0 0
  a : A < w.heap.size
  g : G < w.heap.size
theorem Half.begun {w : World} {A G n : Nat} {f : Nat → Int} (hA : ArenaAt w A G n f) (k i x y o : Int) : Half w (begun w k i x y o) A G n f k i x y o :=
  ⟨.of (begun_below ..), hA.below (begun_below ..), begun_acc .., begun_ans .., hA.lt, hA.row.lt⟩
theorem Half.old {w W : World} {A G n : Nat} {f : Nat → Int} {k i x y o : Int} (h : Half w W A G n f k i x y o) (z : Int) : Half w (W.setCell ⟨w.heap.size, 4, none⟩ (.int .u64 z)) A G n f k i x y z :=
  have ha := h.a; have hg := h.g
  ⟨h.only.set (p := ⟨w.heap.size, 4, none⟩) (.inr (Nat.le_refl _)) _, h.ar.setOther (p := ⟨w.heap.size, 4, none⟩) (by simp only; omega) (by simp only; omega) _, h.acc.set4 z, h.ans.setOther (p := ⟨w.heap.size, 4, none⟩) (by simp only; omega) _, ha, hg⟩
theorem Half.word {w W : World} {A G n : Nat} {f : Nat → Int} {k i x y o : Int} (h : Half w W A G n f k i x y o) (j : Nat) (z : Int) : Half w (W.setCell ⟨G, j, none⟩ (.int .u64 z)) A G n (upd f j z) k i x y o :=
  have hg := h.g
  ⟨h.only.set (p := ⟨G, j, none⟩) (.inl rfl) _, h.ar.set j z, h.acc.setOther (p := ⟨G, j, none⟩) (by simp only; omega) _, h.ans.setOther (p := ⟨G, j, none⟩) (by simp only; omega) _, h.a, hg⟩
theorem Half.post {w W : World} {A G n : Nat} {f : Nat → Int} {k i x y o : Int} (h : Half w W A G n f k i x y o) (k' i' x' y' o' : Int) (b : Bool) :
    DoPost w A G n f (accV k' i' x' y' o') b (.returned (.tuple #[accV k' i' x' y' o', .bool b])) (put5 W (w.heap.size + 1) k' i' x' y' o') :=
  have ha := h.a; have hg := h.g
  ⟨rfl, h.ar.put (by omega) (by omega) _ _ _ _ _, h.only.put (by omega) _ _ _ _ _⟩
set_option maxHeartbeats 3200000 in
theorem Do_load {A G n : Nat} {f : Nat → Int} {w : World} (hA : ArenaAt w A G n f) (j : Nat) (hj : j < n) (x y o : Int) :
    Calls Tryd.prog 79 #[.pointer (some ⟨A, 0, none⟩), accV 1 j x y o] w (DoPost w A G n f (accV 1 j x y (f j)) true) := by
  have HF := Lib.hid (Half.begun hA 1 j x y o)
  have HN := Lib.hid (has_in HF.out.ar (i := j) (by omega))
  have HL := Lib.hid (Load_in HF.out.ar j hj)
  obtain ⟨b0, b1, b2, b3, b4, bf⟩ := HF.out.acc.cells
  clear hA
  generalize hv : f j = v at HL
  go_enter Tryd.func79, Tryd.ntmps79
  go_wp2_with fail
  refine HN.out.mono ?_
  rintro e W ⟨rfl, hW⟩
  rw [hW] at HF HL
  clear HN b0 b1 b2 b3 b4 bf hW
  obtain ⟨b0, b1, b2, b3, b4, bf⟩ := HF.out.acc.cells
  go_wp2_with fail
  refine HL.out.mono ?_
  rintro e W1 ⟨rfl, rfl⟩
  have HO := Lib.hid (HF.out.old v)
  obtain ⟨c0, c1, c2, c3, c4, cf⟩ := HF.out.ans.cells
  obtain ⟨s0, s1, s2, s3, s4, _⟩ := (HO.out.ans.put 1 j x y v).cells
  clear HL
  go_wp2_with fail
  refine bodyPost_ret (v := .tuple #[accV 1 j x y v, .bool true]) (by simp [results, Tryd.f79, go_sem, s0, s1, s2, s3, s4]) rfl ?_
  first | exact HO.out.post 1 j x y v true | (rw [hv] at HO; exact HO.out.post 1 j x y v true)
set_option maxHeartbeats 3200000 in
theorem Do_store {A G n : Nat} {f : Nat → Int} {w : World} (hA : ArenaAt w A G n f) (j : Nat) (hj : j < n) (x y o : Int) :
    Calls Tryd.prog 79 #[.pointer (some ⟨A, 0, none⟩), accV 2 j x y o] w (DoPost w A G n (upd f j x) (accV 2 j x y (f j)) true) := by
  have HF := Lib.hid (Half.begun hA 2 j x y o)
  have HN := Lib.hid (has_in HF.out.ar (i := j) (by omega))
  have HL := Lib.hid (Load_in HF.out.ar j hj)
  obtain ⟨b0, b1, b2, b3, b4, bf⟩ := HF.out.acc.cells
  clear hA
  generalize hv : f j = v at HL
  go_enter Tryd.func79, Tryd.ntmps79
  go_wp2_with fail
  refine HN.out.mono ?_
  rintro e W ⟨rfl, hW⟩
  rw [hW] at HF HL
  clear HN b0 b1 b2 b3 b4 bf hW
  obtain ⟨b0, b1, b2, b3, b4, bf⟩ := HF.out.acc.cells
  go_wp2_with fail
  refine HL.out.mono ?_
  rintro e W1 ⟨rfl, rfl⟩
  have HO := Lib.hid (HF.out.old v)
  have HV := Lib.hid (Store_in HO.out.ar j hj x)
  clear HL
  go_wp2_with fail
  refine HV.out.mono ?_
  rintro e W2 ⟨rfl, hW⟩
  have HP : Hid (Half w W2 A G n (upd f j x) 2 j x y v) := Lib.hid (by rw [hW]; exact HO.out.word j x)
  clear HV HO HF b0 b1 b2 b3 b4 bf hW
  obtain ⟨b0, b1, b2, b3, b4, bf⟩ := HP.out.acc.cells
  obtain ⟨c0, c1, c2, c3, c4, cf⟩ := HP.out.ans.cells
  obtain ⟨s0, s1, s2, s3, s4, _⟩ := (HP.out.ans.put 2 j x y v).cells
  go_wp2_with fail
  refine bodyPost_ret (v := .tuple #[accV 2 j x y v, .bool true]) (by simp [results, Tryd.f79, go_sem, s0, s1, s2, s3, s4]) rfl ?_
  first | exact HP.out.post 2 j x y v true | (rw [hv] at HP; exact HP.out.post 2 j x y v true)
set_option maxHeartbeats 3200000 in
theorem Do_hit {A G n : Nat} {f : Nat → Int} {w : World} (hA : ArenaAt w A G n f) (j : Nat) (hj : j < n) (x y o : Int) (hx : f j = x) :
    Calls Tryd.prog 79 #[.pointer (some ⟨A, 0, none⟩), accV 3 j x y o] w (DoPost w A G n (upd f j y) (accV 3 j x y (f j)) true) := by
  have HF := Lib.hid (Half.begun hA 3 j x y o)
  have HN := Lib.hid (has_in HF.out.ar (i := j) (by omega))
  have HL := Lib.hid (Load_in HF.out.ar j hj)
  obtain ⟨b0, b1, b2, b3, b4, bf⟩ := HF.out.acc.cells
  clear hA
  generalize hv : f j = v at HL
  obtain rfl : v = x := hv.symm.trans hx
  go_enter Tryd.func79, Tryd.ntmps79
  go_wp2_with fail
  refine HN.out.mono ?_
  rintro e W ⟨rfl, hW⟩
  rw [hW] at HF HL
  clear HN b0 b1 b2 b3 b4 bf hW
  obtain ⟨b0, b1, b2, b3, b4, bf⟩ := HF.out.acc.cells
  go_wp2_with fail
  refine HL.out.mono ?_
  rintro e W1 ⟨rfl, rfl⟩
  have HO := Lib.hid (HF.out.old v)
  have HV := Lib.hid (Cas_was HO.out.ar j hj y hv)
  clear HL
  go_wp2_with fail
  refine HV.out.mono ?_
  rintro e W2 ⟨rfl, hW⟩
  have HP : Hid (Half w W2 A G n (upd f j y) 3 j v y v) := Lib.hid (by rw [hW]; exact HO.out.word j y)
  clear HV HO HF b0 b1 b2 b3 b4 bf hW
  obtain ⟨b0, b1, b2, b3, b4, bf⟩ := HP.out.acc.cells
  obtain ⟨c0, c1, c2, c3, c4, cf⟩ := HP.out.ans.cells
  obtain ⟨s0, s1, s2, s3, s4, _⟩ := (HP.out.ans.put 3 j v y v).cells
  go_wp2_with fail
  refine bodyPost_ret (v := .tuple #[accV 3 j v y v, .bool true]) (by simp [results, Tryd.f79, go_sem, s0, s1, s2, s3, s4]) rfl ?_
  first | exact HP.out.post 3 j v y v true | (rw [hv] at HP; exact HP.out.post 3 j v y v true)
set_option maxHeartbeats 3200000 in
theorem Do_miss {A G n : Nat} {f : Nat → Int} {w : World} (hA : ArenaAt w A G n f) (j : Nat) (hj : j < n) (x y o : Int) (hx : ¬ f j = x) :
    Calls Tryd.prog 79 #[.pointer (some ⟨A, 0, none⟩), accV 3 j x y o] w (DoPost w A G n f (accV 3 j x y (f j)) true) := by
  have HF := Lib.hid (Half.begun hA 3 j x y o)
  have HN := Lib.hid (has_in HF.out.ar (i := j) (by omega))
  have HL := Lib.hid (Load_in HF.out.ar j hj)
  obtain ⟨b0, b1, b2, b3, b4, bf⟩ := HF.out.acc.cells
  clear hA
  generalize hv : f j = v at HL
  go_enter Tryd.func79, Tryd.ntmps79
  go_wp2_with fail
  refine HN.out.mono ?_
  rintro e W ⟨rfl, hW⟩
  rw [hW] at HF HL
  clear HN b0 b1 b2 b3 b4 bf hW
  obtain ⟨b0, b1, b2, b3, b4, bf⟩ := HF.out.acc.cells
  go_wp2_with fail
  refine HL.out.mono ?_
  rintro e W1 ⟨rfl, rfl⟩
  have HO := Lib.hid (HF.out.old v)
  have HV := Lib.hid (Cas_miss HO.out.ar j hj x y hx)
  clear HL
  go_wp2_with fail
  refine HV.out.mono ?_
  rintro e W2 ⟨rfl, hW⟩
  have HP : Hid (Half w W2 A G n f 3 j x y v) := Lib.hid (by rw [← hW]; exact HO.out)
  clear HV HO HF b0 b1 b2 b3 b4 bf hW
  obtain ⟨b0, b1, b2, b3, b4, bf⟩ := HP.out.acc.cells
  obtain ⟨c0, c1, c2, c3, c4, cf⟩ := HP.out.ans.cells
  obtain ⟨s0, s1, s2, s3, s4, _⟩ := (HP.out.ans.put 3 j x y v).cells
  go_wp2_with fail
  refine bodyPost_ret (v := .tuple #[accV 3 j x y v, .bool true]) (by simp [results, Tryd.f79, go_sem, s0, s1, s2, s3, s4]) rfl ?_
  first | exact HP.out.post 3 j x y v true | (rw [hv] at HP; exact HP.out.post 3 j x y v true)
set_option maxHeartbeats 3200000 in
theorem Do_add {A G n : Nat} {f : Nat → Int} {w : World} (hA : ArenaAt w A G n f) (j : Nat) (hj : j < n) (x y o : Int) (hu : U64 (f j)) :
    Calls Tryd.prog 79 #[.pointer (some ⟨A, 0, none⟩), accV 4 j x y o] w (DoPost w A G n (upd f j (sumW (f j) x)) (accV 4 j x y (f j)) true) := by
  have HF := Lib.hid (Half.begun hA 4 j x y o)
  have HN := Lib.hid (has_in HF.out.ar (i := j) (by omega))
  have HL := Lib.hid (Load_in HF.out.ar j hj)
  obtain ⟨b0, b1, b2, b3, b4, bf⟩ := HF.out.acc.cells
  clear hA
  generalize hv : f j = v at HL
  go_enter Tryd.func79, Tryd.ntmps79
  go_wp2_with fail
  refine HN.out.mono ?_
  rintro e W ⟨rfl, hW⟩
  rw [hW] at HF HL
  clear HN b0 b1 b2 b3 b4 bf hW
  obtain ⟨b0, b1, b2, b3, b4, bf⟩ := HF.out.acc.cells
  go_wp2_with fail
  refine HL.out.mono ?_
  rintro e W1 ⟨rfl, rfl⟩
  have HO := Lib.hid (HF.out.old v)
  have HV := Lib.hid (Add_in HO.out.ar j hj hu x)
  clear HL
  go_wp2_with fail
  refine HV.out.mono ?_
  rintro e W2 ⟨rfl, hW⟩
  have HP : Hid (Half w W2 A G n (upd f j (sumW (f j) x)) 4 j x y v) := Lib.hid (by rw [hW]; exact HO.out.word j _)
  clear HV HO HF b0 b1 b2 b3 b4 bf hW
  obtain ⟨b0, b1, b2, b3, b4, bf⟩ := HP.out.acc.cells
  obtain ⟨c0, c1, c2, c3, c4, cf⟩ := HP.out.ans.cells
  obtain ⟨s0, s1, s2, s3, s4, _⟩ := (HP.out.ans.put 4 j x y v).cells
  go_wp2_with fail
  refine bodyPost_ret (v := .tuple #[accV 4 j x y v, .bool true]) (by simp [results, Tryd.f79, go_sem, s0, s1, s2, s3, s4]) rfl ?_
  first | exact HP.out.post 4 j x y v true | (rw [hv] at HP; exact HP.out.post 4 j x y v true)
set_option maxHeartbeats 3200000 in
theorem Do_none {A G n : Nat} {f : Nat → Int} {w : World} (hA : ArenaAt w A G n f) (k : Int) (j : Nat) (hj : j < n) (x y o : Int) (hk : ¬ (1 ≤ k ∧ k ≤ 4)) :
    Calls Tryd.prog 79 #[.pointer (some ⟨A, 0, none⟩), accV k j x y o] w (DoPost w A G n f (accV 0 0 0 0 0) false) := by
  have HF := Lib.hid (Half.begun hA k j x y o)
  have HN := Lib.hid (has_in HF.out.ar (i := j) (by omega))
  have HL := Lib.hid (Load_in HF.out.ar j hj)
  have k1 : (k == 1) = false := by rw [beq_eq_false_iff_ne]; omega
  have k2 : (k == 2) = false := by rw [beq_eq_false_iff_ne]; omega
  have k3 : (k == 3) = false := by rw [beq_eq_false_iff_ne]; omega
  have k4 : (k == 4) = false := by rw [beq_eq_false_iff_ne]; omega
  clear hk
  obtain ⟨b0, b1, b2, b3, b4, bf⟩ := HF.out.acc.cells
  clear hA
  generalize hv : f j = v at HL
  go_enter Tryd.func79, Tryd.ntmps79
  go_wp2_with fail
  refine HN.out.mono ?_
  rintro e W ⟨rfl, hW⟩
  rw [hW] at HF HL
  clear HN b0 b1 b2 b3 b4 bf hW
  obtain ⟨b0, b1, b2, b3, b4, bf⟩ := HF.out.acc.cells
  go_wp2_with fail
  refine HL.out.mono ?_
  rintro e W1 ⟨rfl, rfl⟩
  have HO := Lib.hid (HF.out.old v)
  obtain ⟨c0, c1, c2, c3, c4, cf⟩ := HF.out.ans.cells
  obtain ⟨s0, s1, s2, s3, s4, _⟩ := (HO.out.ans.put 0 0 0 0 0).cells
  clear HL
  go_wp2_with fail
  refine bodyPost_ret (v := .tuple #[accV 0 0 0 0 0, .bool false]) (by simp [results, Tryd.f79, go_sem, s0, s1, s2, s3, s4]) rfl ?_
  first | exact HO.out.post 0 0 0 0 0 false | (rw [hv] at HO; exact HO.out.post 0 0 0 0 0 false)
end Go.Proofs.YthdcapkchjamoaaDoor
