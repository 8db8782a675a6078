/- A hand on memory: package hand's note, Load, Store, Cas, Add and Clear, for a hand and for a nil one, at every place: what is answered, the access that is noted, and all words then. -/
import Derived.Test.YthdcapkchjamoaaDoorM2
import Derived.Deep.RegionHeld3
import Derived.Deep.DrawnRows
namespace Go.Proofs.YthdcapkchjamoaaDoor
open Go Go.RowKit
set_option maxRecDepth 100000
attribute [local go_sem ↓] Go.wp_at_zero Go.wp_at_succ

/-- An access is done: there is such a kind, and such a place. -/
def okD (n : Nat) (k i : Int) : Prop := 1 ≤ k ∧ k ≤ 4 ∧ 0 ≤ i ∧ i < n
instance (n : Nat) (k i : Int) : Decidable (okD n k i) := by unfold okD; infer_instance
/-- A number of the access that is told: nought, if it isn't done. -/
def z5 (n : Nat) (k i v : Int) : Int := if okD n k i then v else 0
/-- All words then. -/
def wordsQ (n : Nat) (f : Nat → Int) (k i x y : Int) : Nat → Int := if okD n k i then doF f k i.toNat x y else f
theorem Do_any {A G n : Nat} {f : Nat → Int} {w : World} (hA : ArenaAt w A G n f) (hu : ∀ j, U64 (f j)) (k i x y o : Int) :
    Calls Tryd.prog 79 #[.pointer (some ⟨A, 0, none⟩), accV k i x y o] w (DoPost w A G n (wordsQ n f k i x y) (accV (z5 n k i k) (z5 n k i i) (z5 n k i x) (z5 n k i y) (z5 n k i (f i.toNat))) (decide (okD n k i))) := by
  unfold wordsQ z5
  by_cases h : okD n k i
  · simp only [if_pos h, decide_eq_true h]
    obtain ⟨j, rfl⟩ : ∃ j : Nat, i = j := ⟨i.toNat, by unfold okD at h; omega⟩
    simp only [Int.toNat_natCast]
    unfold okD at h
    exact Do_good hA k j (by omega) x y o (by omega) (hu j)
  · simp only [if_neg h, decide_eq_false h]
    exact Do_bad hA k i x y o h
/-- Of what was there nothing has turned but the blocks that are named. -/
structure Sav (S : Nat → Prop) (w w' : World) : Prop where
  os : w'.os = w.os
  tape : w'.tape = w.tape
  output : w'.output = w.output
  size : w.heap.size ≤ w'.heap.size
  block : ∀ k, k < w.heap.size → ¬ S k → w'.heap[k]? = w.heap[k]?
namespace Sav
variable {S S' : Nat → Prop} {w w' w'' : World}
theorem of (h : Below w.heap.size w w') : Sav S w w' := ⟨h.os, h.tape, h.output, h.size, fun k hk _ => h.block k hk⟩
theorem trans (h : Sav S w w') (k : Sav S w' w'') : Sav S w w'' :=
  ⟨k.os.trans h.os, k.tape.trans h.tape, k.output.trans h.output, Nat.le_trans h.size k.size, fun i hi hg => (k.block i (by have := h.size; omega) hg).trans (h.block i hi hg)⟩
theorem mono (h : Sav S w w') (hs : ∀ k, S k → S' k) : Sav S' w w' := ⟨h.os, h.tape, h.output, h.size, fun k hk hn => h.block k hk (fun e => hn (hs k e))⟩
theorem set (h : Sav S w w') {p : Addr} (hp : S p.block ∨ w.heap.size ≤ p.block) (v : Value) : Sav S w (w'.setCell p v) :=
  ⟨h.os, h.tape, h.output, by have := h.size; simpa [World.setCell] using this, fun k hk hg => (Below.heap_setCell _ _ _ _ (fun e => by
    rcases hp with hp | hp
    · exact hg (e ▸ hp)
    · omega)).trans (h.block k hk hg)⟩
theorem below (h : Sav S w w') {B : Nat} (h1 : B ≤ w.heap.size) (h2 : ∀ k, k < B → ¬ S k) : Below B w w' := ⟨h.os, h.tape, h.output, h.size, fun k hk => h.block k (by omega) (h2 k hk)⟩
theorem put (h : Sav S w w') {C : Nat} (hC : S C ∨ w.heap.size ≤ C) (k i x y o : Int) : Sav S w (put5 w' C k i x y o) :=
  ((((h.set (p := ⟨C, 0, none⟩) hC _).set (p := ⟨C, 1, none⟩) hC _).set (p := ⟨C, 2, none⟩) hC _).set (p := ⟨C, 3, none⟩) hC _).set (p := ⟨C, 4, none⟩) hC _
end Sav
theorem Only.sav {G : Nat} {w w' : World} (h : Only G w w') {S : Nat → Prop} (hs : S G) : Sav S w w' := ⟨h.os, h.tape, h.output, h.size, fun k hk hn => h.block k hk (fun e => hn (e ▸ hs))⟩
/-- What a hand may turn. -/
def HG (H G : Nat) : Nat → Prop := fun k => k = H ∨ k = G
/-- A configuration's numbers lie in a hand. -/
def MapAt (w : World) (H : Nat) (a b c d : Int) : Prop := w.cell? ⟨H, 1, none⟩ = some (.int .i64 a) ∧ w.cell? ⟨H, 2, none⟩ = some (.int .i64 b) ∧ w.cell? ⟨H, 3, none⟩ = some (.int .i64 c) ∧ w.cell? ⟨H, 4, none⟩ = some (.int .i64 d)
/-- A hand at H: its arena at A (the words in block G), its map, and the access. -/
structure HandAt (w : World) (H A G n : Nat) (f : Nat → Int) (a b c d k i x y o : Int) : Prop where
  nA : H ≠ A
  nG : H ≠ G
  box : w.heap[H]? = some (.cells #[.pointer (some ⟨A, 0, none⟩), .int .i64 a, .int .i64 b, .int .i64 c, .int .i64 d, .int .i64 k, .int .i64 i, .int .u64 x, .int .u64 y, .int .u64 o] 51 (0, 0))
  ar : ArenaAt w A G n f
/-- An access is laid into a hand, or into a hand of the document. -/
abbrev putH (w : World) (H : Nat) (k i x y o : Int) : World := ((((w.setCell ⟨H, 5, none⟩ (.int .i64 k)).setCell ⟨H, 6, none⟩ (.int .i64 i)).setCell ⟨H, 7, none⟩ (.int .u64 x)).setCell ⟨H, 8, none⟩ (.int .u64 y)).setCell ⟨H, 9, none⟩ (.int .u64 o)
theorem Sav.putH {S : Nat → Prop} {w w' : World} (h : Sav S w w') {C : Nat} (hC : S C ∨ w.heap.size ≤ C) (k i x y o : Int) : Sav S w (putH w' C k i x y o) :=
  ((((h.set (p := ⟨C, 5, none⟩) hC _).set (p := ⟨C, 6, none⟩) hC _).set (p := ⟨C, 7, none⟩) hC _).set (p := ⟨C, 8, none⟩) hC _).set (p := ⟨C, 9, none⟩) hC _
theorem heap_putH (w : World) (H : Nat) (k i x y o : Int) {B : Nat} (hB : B ≠ H) : (putH w H k i x y o).heap[B]? = w.heap[B]? :=
  (Below.heap_setCell _ _ _ _ hB).trans ((Below.heap_setCell _ _ _ _ hB).trans ((Below.heap_setCell _ _ _ _ hB).trans ((Below.heap_setCell _ _ _ _ hB).trans (Below.heap_setCell _ _ _ _ hB))))
theorem heap_put5 (w : World) (H : Nat) (k i x y o : Int) {B : Nat} (hB : B ≠ H) : (put5 w H k i x y o).heap[B]? = w.heap[B]? :=
  (Below.heap_setCell _ _ _ _ hB).trans ((Below.heap_setCell _ _ _ _ hB).trans ((Below.heap_setCell _ _ _ _ hB).trans ((Below.heap_setCell _ _ _ _ hB).trans (Below.heap_setCell _ _ _ _ hB))))
namespace HandAt
variable {w w' : World} {H A G n : Nat} {f f' : Nat → Int} {a b c d k i x y o : Int}
theorem cells (h : HandAt w H A G n f a b c d k i x y o) : w.cell? ⟨H, 0, none⟩ = some (.pointer (some ⟨A, 0, none⟩)) ∧ MapAt w H a b c d ∧ w.cell? ⟨H, 5, none⟩ = some (.int .i64 k) ∧ w.cell? ⟨H, 6, none⟩ = some (.int .i64 i) ∧ w.cell? ⟨H, 7, none⟩ = some (.int .u64 x) ∧ w.cell? ⟨H, 8, none⟩ = some (.int .u64 y) ∧ w.cell? ⟨H, 9, none⟩ = some (.int .u64 o) ∧ (∀ j, w.frozen? ⟨H, j, none⟩ = false) := by
  have h := h.box
  refine ⟨by simp [World.cell?, h], ⟨by simp [World.cell?, h], by simp [World.cell?, h], by simp [World.cell?, h], by simp [World.cell?, h]⟩, by simp [World.cell?, h], by simp [World.cell?, h], by simp [World.cell?, h], by simp [World.cell?, h], by simp [World.cell?, h], fun j => by simp [World.frozen?, h]⟩
theorem lt (h : HandAt w H A G n f a b c d k i x y o) : H < w.heap.size := (Array.getElem?_eq_some_iff.1 h.box).1
theorem other (h : HandAt w H A G n f a b c d k i x y o) (e1 : w'.heap[H]? = w.heap[H]?) (e2 : w'.heap[A]? = w.heap[A]?) (e3 : w'.heap[G]? = w.heap[G]?) : HandAt w' H A G n f a b c d k i x y o := ⟨h.nA, h.nG, e1.trans h.box, h.ar.other e2 e3⟩
theorem below (h : HandAt w H A G n f a b c d k i x y o) (hb : Below w.heap.size w w') : HandAt w' H A G n f a b c d k i x y o := h.other (hb.block _ h.lt) (hb.block _ h.ar.lt) (hb.block _ h.ar.row.lt)
theorem drew (h : HandAt w H A G n f a b c d k i x y o) : HandAt w.drew H A G n f a b c d k i x y o := ⟨h.nA, h.nG, h.box, h.ar.other rfl rfl⟩
theorem act (h : HandAt w H A G n f a b c d k i x y o) (ho : Only G w w') (ha : ArenaAt w' A G n f') : HandAt w' H A G n f' a b c d k i x y o := ⟨h.nA, h.nG, (ho.block H h.lt h.nG).trans h.box, ha⟩
theorem put (h : HandAt w H A G n f a b c d k i x y o) {C : Nat} (h0 : C ≠ H) (h1 : C ≠ A) (h2 : C ≠ G) (k' i' x' y' o' : Int) : HandAt (put5 w C k' i' x' y' o') H A G n f a b c d k i x y o :=
  h.other (heap_put5 _ _ _ _ _ _ _ h0.symm) (heap_put5 _ _ _ _ _ _ _ h1.symm) (heap_put5 _ _ _ _ _ _ _ h2.symm)
theorem note (h : HandAt w H A G n f a b c d k i x y o) (k' i' x' y' o' : Int) : HandAt (putH w H k' i' x' y' o') H A G n f a b c d k' i' x' y' o' := by
  refine ⟨h.nA, h.nG, ?_, h.ar.other (heap_putH _ _ _ _ _ _ _ h.nA.symm) (heap_putH _ _ _ _ _ _ _ h.nG.symm)⟩
  have h := h.box
  simp [World.setCell, Array.getElem?_modify, h]
end HandAt
/-- What note answers. -/
def NotePost (w : World) (H A G n : Nat) (f' : Nat → Int) (a b c d k i x y o : Int) (r : Bool) (e : Ending) (w' : World) : Prop :=
  e = .returned (.tuple #[accV k i x y o, .bool r]) ∧ HandAt w' H A G n f' a b c d k i x y o ∧ Sav (HG H G) w w'
/-- What a hand's call answers. -/
def HPost (w : World) (H A G n : Nat) (f' : Nat → Int) (a b c d k i x y o : Int) (v : Value) (e : Ending) (w' : World) : Prop :=
  e = .returned v ∧ HandAt w' H A G n f' a b c d k i x y o ∧ Sav (HG H G) w w'
set_option maxHeartbeats 3200000 in
theorem note_c {H A G n : Nat} {f : Nat → Int} {a b c d k0 i0 x0 y0 o0 : Int} {w : World} (hH : HandAt w H A G n f a b c d k0 i0 x0 y0 o0) (hu : ∀ j, U64 (f j)) (k i x y o : Int) :
    Calls Tryd.prog 68 #[.pointer (some ⟨H, 0, none⟩), accV k i x y o] w (NotePost w H A G n (wordsQ n f k i x y) a b c d (z5 n k i k) (z5 n k i i) (z5 n k i x) (z5 n k i y) (z5 n k i (f i.toNat)) (decide (okD n k i))) := by
  have HD : Hid (∀ W, ArenaAt W A G n f → _) := Lib.hid (fun W hW => Do_any (w := W) hW hu k i x y o)
  have HF := Lib.hid (hH.below (begun_below w k i x y o)).drew
  have hX : Acc5 (begun w k i x y o).drew w.heap.size k i x y o := begun_acc w k i x y o
  have hY : Acc5 (begun w k i x y o).drew (w.heap.size + 1) 0 0 0 0 0 := begun_ans w k i x y o
  have HQ : Hid (Sav (HG H G) w (begun w k i x y o).drew) := Lib.hid (Sav.of (begun_below w k i x y o).drew)
  have hlt : H < w.heap.size := hH.lt
  have hltA : A < w.heap.size := hH.ar.lt
  have hltG : G < w.heap.size := hH.ar.row.lt
  generalize wordsQ n f k i x y = f' at *
  generalize decide (okD n k i) = r at *
  generalize z5 n k i k = K1 at *
  generalize z5 n k i i = I1 at *
  generalize z5 n k i x = X1 at *
  generalize z5 n k i y = Y1 at *
  generalize z5 n k i (f i.toNat) = O1 at *
  clear hH hu
  obtain ⟨h0, _, h5, h6, h7, h8, h9, hf⟩ := HF.out.cells
  obtain ⟨b0, b1, b2, b3, b4, bf⟩ := hX.cells
  have hnB : H ≠ w.heap.size := by omega
  have hnC : H ≠ w.heap.size + 1 := by omega
  have HX := Lib.hid hX; have HY := Lib.hid hY; clear hX hY
  go_enter Tryd.func68, Tryd.ntmps68
  go_wp2_with fail
  clear h5 h6 h7 h8 h9 hf bf
  refine wp_region_noPanic ?_
  refine wp_region_held_drew (S := (fun w' => w'.cell? ⟨H, 0, none⟩ = some (.pointer (some ⟨A, 0, none⟩)) ∧ w'.cell? ⟨w.heap.size, 0, none⟩ = some (.int .i64 k) ∧ w'.cell? ⟨w.heap.size, 1, none⟩ = some (.int .i64 i) ∧ w'.cell? ⟨w.heap.size, 2, none⟩ = some (.int .u64 x) ∧ w'.cell? ⟨w.heap.size, 3, none⟩ = some (.int .u64 y) ∧ w'.cell? ⟨w.heap.size, 4, none⟩ = some (.int .u64 o))) (by kernel_rfl) ?_ (fun hHeld => ?_)
  · exact ⟨h0, b0, b1, b2, b3, b4⟩
  refine wpAnyH_take (i := 0) (oi := { dst := some 10, op := Op.move (Operand.tmp 0), type := 26, pos := "hand.go:98", after := #[], guard := none }) (v := ?vn0) rfl (by kernel_rfl) (by kernel_rfl) (by kernel_rfl) (fun _ _ _ h => h) (Or.inl ⟨by rfl, ?hyn0⟩) hHeld ?_
  case hyn0 => (intro w hSw; (try dsimp only at hSw); go_simp; (try with_reducible rfl))
  try simp only [Act.put, List.setIfInBounds_toArray, List.set_cons_zero, List.set_cons_succ]
  refine wpAnyH_take (i := 1) (oi := { dst := some 11, op := Op.move (Operand.tmp 0), type := 26, pos := "hand.go:98", after := #[], guard := none }) (v := ?vn1) rfl (by kernel_rfl) (by kernel_rfl) (by kernel_rfl) (fun _ _ _ h => h) (Or.inl ⟨by rfl, ?hyn1⟩) hHeld ?_
  case hyn1 => (intro w hSw; (try dsimp only at hSw); go_simp; (try with_reducible rfl))
  try simp only [Act.put, List.setIfInBounds_toArray, List.set_cons_zero, List.set_cons_succ]
  refine wpAnyH_take (i := 2) (oi := { dst := some 12, op := Op.nilCheck (Operand.tmp 11), type := 0, pos := "hand.go:98", after := #[{ on := 1, ground := Ground.data }], guard := none }) (v := ?vn2) rfl (by kernel_rfl) (by kernel_rfl) (by kernel_rfl) (fun _ _ _ h => h) (Or.inl ⟨by rfl, ?hyn2⟩) hHeld ?_
  case hyn2 => (intro w hSw; (try dsimp only at hSw); go_simp; (try with_reducible rfl))
  try simp only [Act.put, List.setIfInBounds_toArray, List.set_cons_zero, List.set_cons_succ]
  refine wpAnyH_take (i := 3) (oi := { dst := some 13, op := Op.fieldAddr 51 (Operand.tmp 12) 0, type := 0, pos := "hand.go:98", after := #[{ on := 2, ground := Ground.data }], guard := none }) (v := ?vn3) rfl (by kernel_rfl) (by kernel_rfl) (by kernel_rfl) (fun _ _ _ h => h) (Or.inl ⟨by rfl, ?hyn3⟩) hHeld ?_
  case hyn3 => (intro w hSw; (try dsimp only at hSw); go_simp; (try with_reducible rfl))
  try simp only [Act.put, List.setIfInBounds_toArray, List.set_cons_zero, List.set_cons_succ]
  refine wpAnyH_take (i := 4) (oi := { dst := some 14, op := Op.load 45 (Operand.tmp 13), type := 45, pos := "hand.go:98", after := #[{ on := 3, ground := Ground.data }], guard := none }) (v := ?vn4) rfl (by kernel_rfl) (by kernel_rfl) (by kernel_rfl) (fun _ _ _ h => h) (Or.inl ⟨by rfl, ?hyn4⟩) hHeld ?_
  case hyn4 => (intro w hSw; (try dsimp only at hSw); go_simp; (try with_reducible rfl))
  try simp only [Act.put, List.setIfInBounds_toArray, List.set_cons_zero, List.set_cons_succ]
  refine wpAnyH_take (i := 5) (oi := { dst := some 15, op := Op.load 49 (Operand.tmp 3), type := 49, pos := "hand.go:98", after := #[], guard := none }) (v := ?vn5) rfl (by kernel_rfl) (by kernel_rfl) (by kernel_rfl) (fun _ _ _ h => h) (Or.inl ⟨by rfl, ?hyn5⟩) hHeld ?_
  case hyn5 => (intro w hSw; (try dsimp only at hSw); go_simp; (try with_reducible rfl))
  try simp only [Act.put, List.setIfInBounds_toArray, List.set_cons_zero, List.set_cons_succ]
  refine wpAnyH_ready (rs := [6]) (by kernel_rfl) (by simp) ?_
  refine AllReadyH.cons (o := { dst := some 16, op := Op.call { callee := Callee.value (Operand.func 79), args := #[Operand.tmp 14, Operand.tmp 15], argTypes := #[45, 49] }, type := 116, pos := "hand.go:98", after := #[{ on := 4, ground := Ground.data }, { on := 5, ground := Ground.data }], guard := none }) rfl (fun K hK => ?_) AllReadyH.nil
  go_simp
  refine (HD.out _ HF.out.ar).mono ?_
  rintro e V ⟨rfl, hA, ho⟩
  have HF1 := Lib.hid (HF.out.act ho hA)
  have HX1 := Lib.hid (HX.out.other (ho.block _ HX.out.lt (by omega)))
  have HY1 := Lib.hid (HY.out.other (ho.block _ HY.out.lt (by omega)))
  have HQ1 := Lib.hid (HQ.out.trans (ho.sav (S := HG H G) (.inr rfl)))
  clear hA ho HF HX HY HQ HD h0 b0 b1 b2 b3 b4 hHeld
  obtain ⟨h0, _, h5, h6, h7, h8, h9, hf⟩ := HF1.out.cells
  obtain ⟨b0, b1, b2, b3, b4, bf⟩ := HX1.out.cells
  refine hK.out _ _ ?_ (fun hHeld => ?_)
  · exact ⟨h0, b0, b1, b2, b3, b4⟩
  clear hK K
  try simp only [Act.put, List.setIfInBounds_toArray, List.set_cons_zero, List.set_cons_succ]
  refine wpAnyH_take (i := 7) (oi := { dst := some 9, op := Op.move (Operand.tmp 16), type := 116, pos := "hand.go:98", after := #[{ on := 6, ground := Ground.data }], guard := none }) (v := ?vn7) rfl (by kernel_rfl) (by kernel_rfl) (by kernel_rfl) (fun _ _ _ h => h) (Or.inl ⟨by rfl, ?hyn7⟩) hHeld ?_
  case hyn7 => (intro w hSw; (try dsimp only at hSw); go_simp; (try with_reducible rfl))
  try simp only [Act.put, List.setIfInBounds_toArray, List.set_cons_zero, List.set_cons_succ]
  refine wpAnyH_take (i := 8) (oi := { dst := some 17, op := Op.extract (Operand.tmp 9) 0, type := 49, pos := "hand.go:98", after := #[{ on := 7, ground := Ground.data }], guard := none }) (v := ?vn8) rfl (by kernel_rfl) (by kernel_rfl) (by kernel_rfl) (fun _ _ _ h => h) (Or.inl ⟨by rfl, ?hyn8⟩) hHeld ?_
  case hyn8 => (intro w hSw; (try dsimp only at hSw); go_simp; (try with_reducible rfl))
  try simp only [Act.put, List.setIfInBounds_toArray, List.set_cons_zero, List.set_cons_succ]
  refine wpAnyH_take (i := 9) (oi := { dst := some 18, op := Op.extract (Operand.tmp 9) 1, type := 4, pos := "hand.go:98", after := #[{ on := 7, ground := Ground.data }, { on := 12, ground := Ground.gcOnly Departure.lateStores }], guard := none }) (v := ?vn9) rfl (by kernel_rfl) (by kernel_rfl) (by kernel_rfl) (fun _ _ _ h => h) (Or.inl ⟨by rfl, ?hyn9⟩) hHeld ?_
  case hyn9 => (intro w hSw; (try dsimp only at hSw); go_simp; (try with_reducible rfl))
  try simp only [Act.put, List.setIfInBounds_toArray, List.set_cons_zero, List.set_cons_succ]
  refine wpAnyH_take (i := 10) (oi := { dst := some 19, op := Op.nilCheck (Operand.tmp 10), type := 0, pos := "hand.go:98", after := #[{ on := 0, ground := Ground.data }, { on := 0, ground := Ground.phase }, { on := 1, ground := Ground.phase }, { on := 2, ground := Ground.phase }, { on := 3, ground := Ground.phase }, { on := 4, ground := Ground.phase }, { on := 5, ground := Ground.phase }, { on := 6, ground := Ground.phase }, { on := 7, ground := Ground.phase }, { on := 8, ground := Ground.phase }, { on := 9, ground := Ground.textOnly Departure.lateStores }], guard := none }) (v := ?vn10) rfl (by kernel_rfl) (by kernel_rfl) (by kernel_rfl) (fun _ _ _ h => h) (Or.inl ⟨by rfl, ?hyn10⟩) hHeld ?_
  case hyn10 => (intro w hSw; (try dsimp only at hSw); go_simp; (try with_reducible rfl))
  try simp only [Act.put, List.setIfInBounds_toArray, List.set_cons_zero, List.set_cons_succ]
  refine wpAnyH_take (i := 11) (oi := { dst := some 20, op := Op.fieldAddr 51 (Operand.tmp 19) 2, type := 0, pos := "hand.go:98", after := #[{ on := 10, ground := Ground.data }, { on := 0, ground := Ground.phase }, { on := 1, ground := Ground.phase }, { on := 2, ground := Ground.phase }, { on := 3, ground := Ground.phase }, { on := 4, ground := Ground.phase }, { on := 5, ground := Ground.phase }, { on := 6, ground := Ground.phase }, { on := 7, ground := Ground.phase }, { on := 8, ground := Ground.phase }, { on := 9, ground := Ground.textOnly Departure.lateStores }], guard := none }) (v := ?vn11) rfl (by kernel_rfl) (by kernel_rfl) (by kernel_rfl) (fun _ _ _ h => h) (Or.inl ⟨by rfl, ?hyn11⟩) hHeld ?_
  case hyn11 => (intro w hSw; (try dsimp only at hSw); go_simp; (try with_reducible rfl))
  try simp only [Act.put, List.setIfInBounds_toArray, List.set_cons_zero, List.set_cons_succ]
  refine wpAnyH_ready (rs := [12]) (by kernel_rfl) (by simp) ?_
  refine AllReadyH.cons (o := { dst := none, op := Op.store 49 (Operand.tmp 20) (Operand.tmp 17), type := 0, pos := "hand.go:98", after := #[{ on := 11, ground := Ground.data }, { on := 8, ground := Ground.data }, { on := 6, ground := Ground.chain }, { on := 0, ground := Ground.phase }, { on := 1, ground := Ground.phase }, { on := 2, ground := Ground.phase }, { on := 3, ground := Ground.phase }, { on := 4, ground := Ground.phase }, { on := 5, ground := Ground.phase }, { on := 6, ground := Ground.phase }, { on := 7, ground := Ground.phase }, { on := 8, ground := Ground.phase }, { on := 9, ground := Ground.textOnly Departure.lateStores }], guard := none }) rfl (fun K hK => ?_) AllReadyH.nil
  go_simp
  obtain ⟨g0, _⟩ := (HF1.out.note K1 I1 X1 Y1 O1).cells
  obtain ⟨e0, e1, e2, e3, e4, _⟩ := (HX1.out.other (heap_putH V H K1 I1 X1 Y1 O1 (by omega))).cells
  refine hK.out _ _ ?_ (fun hHeld => ?_)
  · exact ⟨g0, e0, e1, e2, e3, e4⟩
  clear hK K
  try simp only [Act.put, List.setIfInBounds_toArray, List.set_cons_zero, List.set_cons_succ]
  refine wpAnyH_take (i := 13) (oi := { dst := some 5, op := Op.assign (Operand.tmp 18), type := 4, pos := "hand.go:98", after := #[{ on := 9, ground := Ground.data }, { on := 12, ground := Ground.chain }, { on := 0, ground := Ground.phase }, { on := 1, ground := Ground.phase }, { on := 2, ground := Ground.phase }, { on := 3, ground := Ground.phase }, { on := 4, ground := Ground.phase }, { on := 5, ground := Ground.phase }, { on := 6, ground := Ground.phase }, { on := 7, ground := Ground.phase }, { on := 8, ground := Ground.phase }, { on := 9, ground := Ground.phase }, { on := 10, ground := Ground.phase }, { on := 11, ground := Ground.phase }, { on := 12, ground := Ground.phase }], guard := none }) (v := ?vn13) rfl (by kernel_rfl) (by kernel_rfl) (by kernel_rfl) (fun _ _ _ h => h) (Or.inl ⟨by rfl, ?hyn13⟩) hHeld ?_
  case hyn13 => (intro w hSw; (try dsimp only at hSw); go_simp; (try with_reducible rfl))
  try simp only [Act.put, List.setIfInBounds_toArray, List.set_cons_zero, List.set_cons_succ]
  refine wpAnyH_done (by kernel_rfl) ?_ _
  refine NoPanic.normal ?_
  clear hHeld
  have HF2 := Lib.hid (HF1.out.note K1 I1 X1 Y1 O1)
  obtain ⟨g0, _, g5, g6, g7, g8, g9, gf⟩ := HF2.out.cells
  have HY2 : Hid (Acc5 (putH V H K1 I1 X1 Y1 O1) (w.heap.size + 1) 0 0 0 0 0) := Lib.hid (HY1.out.other (heap_putH _ _ _ _ _ _ _ (by omega)))
  have HQ2 := Lib.hid (HQ1.out.putH (C := H) (.inl (.inl rfl)) K1 I1 X1 Y1 O1)
  clear HF1 HX1 HY1 HQ1 h0 h5 h6 h7 h8 h9 hf b0 b1 b2 b3 b4 bf
  obtain ⟨c0, c1, c2, c3, c4, cf⟩ := HY2.out.cells
  obtain ⟨s0, s1, s2, s3, s4, _⟩ := (HY2.out.put K1 I1 X1 Y1 O1).cells
  go_wp2_with fail
  refine bodyPost_ret (v := .tuple #[accV K1 I1 X1 Y1 O1, .bool r]) (by simp [results, Tryd.f68, go_sem, s0, s1, s2, s3, s4]) rfl ?_
  exact ⟨rfl, HF2.out.put (by omega) (by omega) (by omega) _ _ _ _ _, HQ2.out.put (C := w.heap.size + 1) (.inr (by omega)) _ _ _ _ _⟩
end Go.Proofs.YthdcapkchjamoaaDoor
