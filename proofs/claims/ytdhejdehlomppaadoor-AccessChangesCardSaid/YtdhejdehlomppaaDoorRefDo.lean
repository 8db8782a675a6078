/- The document's Do (layer 5) over a row of words of one's own: an access at a place that is there, of each kind; of no kind; at a place that isn't there. -/
import Derived.Test.YtdhejdehlomppaaDoorAccess
import Derived.Laws.Pointers
import Derived.Below
import Derived.Deep.OwnRows
namespace Go.Proofs.YtdhejdehlomppaaDoor
open Go Go.RowKit
set_option maxRecDepth 100000
theorem newBlock (w : World) (o : Obj) : (w.alloc o).heap[w.heap.size]? = some o := by unfold World.alloc; exact Array.getElem?_push_size

/-- What a place holds then. -/
def upd (f : Nat → Int) (j : Nat) (x : Int) : Nat → Int := fun i => if i = j then x else f i
/-- A sum, round the word. -/
def sumW (a b : Int) : Int := (a + b) % 18446744073709551616
/-- A number that a word can be. -/
def U64 (x : Int) : Prop := 0 ≤ x ∧ x < 18446744073709551616
theorem sumW_u64 (a b : Int) : U64 (sumW a b) := ⟨Int.emod_nonneg _ (by decide), Int.emod_lt_of_pos _ (by decide)⟩
theorem wrap_sum (a b : Int) : IntKind.u64.wrap (a + b) = sumW a b := by rw [IntKind.wrap_u64]; rfl
theorem wrap_back {a : Int} (h : U64 a) (b : Int) : IntKind.u64.wrap (sumW a b - b) = a := by
  unfold sumW U64 at *; rw [IntKind.wrap_u64]; omega
/-- Words f 0, f 1, .. lie at the first n places of block R. -/
def RowAt (w : World) (R : Nat) (t : TypeId) (n : Nat) (f : Nat → Int) : Prop :=
  ∃ c : Array Value, w.heap[R]? = some (.cells c t (0, 0)) ∧ n ≤ c.size ∧ ∀ j, j < n → c[j]? = some (.int .u64 (f j))
namespace RowAt
variable {w w' : World} {R : Nat} {t : TypeId} {n : Nat} {f g : Nat → Int}
theorem cell (h : RowAt w R t n f) {j : Nat} (hj : j < n) : w.cell? ⟨R, j, none⟩ = some (.int .u64 (f j)) := by
  obtain ⟨c, hb, _, hc⟩ := h; simp [World.cell?, hb, hc j hj]
theorem frozen (h : RowAt w R t n f) (j : Nat) : w.frozen? ⟨R, j, none⟩ = false := by
  obtain ⟨c, hb, _, _⟩ := h; simp [World.frozen?, hb]
theorem lt (h : RowAt w R t n f) : R < w.heap.size := by
  obtain ⟨c, hb, _, _⟩ := h; exact (Array.getElem?_eq_some_iff.1 hb).1
theorem congr (h : RowAt w R t n f) (e : ∀ j, j < n → f j = g j) : RowAt w R t n g := by
  obtain ⟨c, hb, hn, hc⟩ := h; exact ⟨c, hb, hn, fun j hj => by rw [hc j hj, e j hj]⟩
theorem other (h : RowAt w R t n f) (e : w'.heap[R]? = w.heap[R]?) : RowAt w' R t n f := by
  obtain ⟨c, hb, hn, hc⟩ := h; exact ⟨c, e.trans hb, hn, hc⟩
theorem below (h : RowAt w R t n f) (hb : Below w.heap.size w w') : RowAt w' R t n f := h.other (hb.block _ h.lt)
theorem set (h : RowAt w R t n f) (p : Nat) (x : Int) : RowAt (w.setCell ⟨R, p, none⟩ (.int .u64 x)) R t n (upd f p x) := by
  obtain ⟨c, hb, hn, hc⟩ := h
  refine ⟨c.setIfInBounds p (.int .u64 x), by simp [World.setCell, Array.getElem?_modify, hb], by simpa using hn, fun j hj => ?_⟩
  rw [Array.getElem?_setIfInBounds]
  unfold upd
  by_cases e : j = p
  · subst e; rw [if_pos rfl, if_pos rfl, if_pos (by omega)]
  · rw [if_neg (fun h => e h.symm), if_neg e, hc j hj]
theorem setOther (h : RowAt w R t n f) {p : Addr} (hp : p.block ≠ R) (v : Value) : RowAt (w.setCell p v) R t n f := h.other (Below.heap_setCell _ _ _ _ (fun e => hp e.symm))
end RowAt
/-- Of what was there nothing has turned but block G. -/
structure Only (G : Nat) (w w' : World) : Prop where
  os : w'.os = w.os
  tape : w'.tape = w.tape
  output : w'.output = w.output
  size : w.heap.size ≤ w'.heap.size
  block : ∀ k, k < w.heap.size → k ≠ G → w'.heap[k]? = w.heap[k]?
theorem Only.of {G : Nat} {w w' : World} (h : Below w.heap.size w w') : Only G w w' := ⟨h.os, h.tape, h.output, h.size, fun k hk _ => h.block k hk⟩
theorem Only.trans {G : Nat} {a b c : World} (h : Only G a b) (k : Only G b c) : Only G a c :=
  ⟨k.os.trans h.os, k.tape.trans h.tape, k.output.trans h.output, Nat.le_trans h.size k.size, fun i hi hg => (k.block i (by have := h.size; omega) hg).trans (h.block i hi hg)⟩
theorem Only.set {G : Nat} {a w : World} (h : Only G a w) {p : Addr} (hp : p.block = G ∨ a.heap.size ≤ p.block) (v : Value) : Only G a (w.setCell p v) :=
  ⟨h.os, h.tape, h.output, by have := h.size; simpa [World.setCell] using this, fun k hk hg => (Below.heap_setCell _ _ _ _ (by omega)).trans (h.block k hk hg)⟩
theorem Only.below {G B : Nat} {w w' : World} (h : Only G w w') (h1 : B ≤ w.heap.size) (h2 : B ≤ G) : Below B w w' := ⟨h.os, h.tape, h.output, h.size, fun k hk => h.block k (by omega) (by omega)⟩
/-- What an access at a place that is there leaves. -/
def doF (f : Nat → Int) (k : Int) (j : Nat) (x y : Int) : Nat → Int :=
  if k = 2 then upd f j x else if k = 3 then (if f j = x then upd f j y else f) else if k = 4 then upd f j (sumW (f j) x) else f
/-- What the document's Do answers at a place that is there. -/
def RefPost (w : World) (R n : Nat) (f' : Nat → Int) (v : Value) (e : Ending) (w' : World) : Prop := e = .returned (.tuple #[v, .bool true]) ∧ RowAt w' R 31 n f' ∧ Only R w w'
theorem ref_same {w : World} {R n : Nat} {f : Nat → Int} (h : RowAt w R 31 n f) (v : Value) (o1 o2 : Obj) : RefPost w R n f v (.returned (.tuple #[v, .bool true])) ((w.alloc o1).alloc o2) :=
  ⟨rfl, (h.below (below_new _ _)).below (below_new _ _), .of (below_on (below_new _ _) _)⟩
theorem ref_set {w : World} {R n : Nat} {f : Nat → Int} (h : RowAt w R 31 n f) (j : Nat) (x : Int) (v : Value) (o1 o2 : Obj) : RefPost w R n (upd f j x) v (.returned (.tuple #[v, .bool true])) (((w.setCell ⟨R, j, none⟩ (.int .u64 x)).alloc o1).alloc o2) :=
  ⟨rfl, ((h.set j x).below (below_new _ _)).below (below_new _ _), ((Only.of (Below.refl _ _)).set (p := ⟨R, j, none⟩) (.inl rfl) _).trans (.of (below_on (below_new _ _) _))⟩
set_option maxHeartbeats 3200000 in
theorem RefDo_load {R n cap : Nat} {f : Nat → Int} {w : World} (hR : RowAt w R 31 n f) (j : Nat) (hj : j < n) (x y o : Int) :
    Calls Tryd.prog 12 #[.slice (some ⟨R, 0, none⟩) n cap, accV 1 j x y o] w (RefPost w R n f (accV 1 j x y (f j))) := by
  have hlt := hR.lt
  have hc := hR.cell hj
  have hf := hR.frozen j
  have hne : R ≠ w.heap.size := by omega
  have hne1 : R ≠ w.heap.size + 1 := by omega
  have HR := Lib.hid hR
  generalize hv : f j = v at *
  have HV := Lib.hid hv; clear hv
  clear hR
  go_enter Tryd.func12, Tryd.ntmps12
  go_wp2_with fail
  refine bodyPost_ret (v := .tuple #[accV 1 j x y v, .bool true]) (by simp [results, Tryd.f12, go_sem]) rfl ?_
  exact ref_same HR.out _ _ _
set_option maxHeartbeats 3200000 in
theorem RefDo_store {R n cap : Nat} {f : Nat → Int} {w : World} (hR : RowAt w R 31 n f) (j : Nat) (hj : j < n) (x y o : Int) :
    Calls Tryd.prog 12 #[.slice (some ⟨R, 0, none⟩) n cap, accV 2 j x y o] w (RefPost w R n (upd f j x) (accV 2 j x y (f j))) := by
  have hlt := hR.lt
  have hc := hR.cell hj
  have hf := hR.frozen j
  have hne : R ≠ w.heap.size := by omega
  have hne1 : R ≠ w.heap.size + 1 := by omega
  have HR := Lib.hid hR
  generalize hv : f j = v at *
  have HV := Lib.hid hv; clear hv
  clear hR
  go_enter Tryd.func12, Tryd.ntmps12
  go_wp2_with fail
  refine bodyPost_ret (v := .tuple #[accV 2 j x y v, .bool true]) (by simp [results, Tryd.f12, go_sem]) rfl ?_
  exact ref_set HR.out j _ _ _ _
set_option maxHeartbeats 3200000 in
theorem RefDo_hit {R n cap : Nat} {f : Nat → Int} {w : World} (hR : RowAt w R 31 n f) (j : Nat) (hj : j < n) (x y o : Int) (hx : f j = x) :
    Calls Tryd.prog 12 #[.slice (some ⟨R, 0, none⟩) n cap, accV 3 j x y o] w (RefPost w R n (upd f j y) (accV 3 j x y (f j))) := by
  have hlt := hR.lt
  have hc := hR.cell hj
  have hf := hR.frozen j
  have hne : R ≠ w.heap.size := by omega
  have hne1 : R ≠ w.heap.size + 1 := by omega
  have HR := Lib.hid hR
  generalize hv : f j = v at *
  subst hx
  have HV := Lib.hid hv; clear hv
  clear hR
  go_enter Tryd.func12, Tryd.ntmps12
  go_wp2_with fail
  refine bodyPost_ret (v := .tuple #[accV 3 j v y v, .bool true]) (by simp [results, Tryd.f12, go_sem]) rfl ?_
  exact ref_set HR.out j _ _ _ _
set_option maxHeartbeats 3200000 in
theorem RefDo_miss {R n cap : Nat} {f : Nat → Int} {w : World} (hR : RowAt w R 31 n f) (j : Nat) (hj : j < n) (x y o : Int) (hx : ¬ f j = x) :
    Calls Tryd.prog 12 #[.slice (some ⟨R, 0, none⟩) n cap, accV 3 j x y o] w (RefPost w R n f (accV 3 j x y (f j))) := by
  have hlt := hR.lt
  have hc := hR.cell hj
  have hf := hR.frozen j
  have hne : R ≠ w.heap.size := by omega
  have hne1 : R ≠ w.heap.size + 1 := by omega
  have HR := Lib.hid hR
  have hq : (f j == x) = false := by rw [beq_eq_false_iff_ne]; exact hx
  clear hx
  generalize hv : f j = v at *
  have HV := Lib.hid hv; clear hv
  clear hR
  go_enter Tryd.func12, Tryd.ntmps12
  go_wp2_with fail
  refine bodyPost_ret (v := .tuple #[accV 3 j x y v, .bool true]) (by simp [results, Tryd.f12, go_sem]) rfl ?_
  exact ref_same HR.out _ _ _
set_option maxHeartbeats 3200000 in
theorem RefDo_add {R n cap : Nat} {f : Nat → Int} {w : World} (hR : RowAt w R 31 n f) (j : Nat) (hj : j < n) (x y o : Int) :
    Calls Tryd.prog 12 #[.slice (some ⟨R, 0, none⟩) n cap, accV 4 j x y o] w (RefPost w R n (upd f j (sumW (f j) x)) (accV 4 j x y (f j))) := by
  have hlt := hR.lt
  have hc := hR.cell hj
  have hf := hR.frozen j
  have hne : R ≠ w.heap.size := by omega
  have hne1 : R ≠ w.heap.size + 1 := by omega
  have HR := Lib.hid hR
  have hw := wrap_sum (f j) x
  generalize hv : f j = v at *
  have HV := Lib.hid hv; clear hv
  generalize sumW v x = z at *
  clear hR
  go_enter Tryd.func12, Tryd.ntmps12
  go_wp2_with fail
  refine bodyPost_ret (v := .tuple #[accV 4 j x y v, .bool true]) (by simp [results, Tryd.f12, go_sem]) rfl ?_
  exact ref_set HR.out j _ _ _ _
set_option maxHeartbeats 3200000 in
theorem RefDo_low (a : Option Addr) (n cap : Nat) (w : World) (k i x y o : Int) (h : k < 1) :
    Calls Tryd.prog 12 #[.slice a n cap, accV k i x y o] w fun e w' => e = .returned (.tuple #[accV 0 0 0 0 0, .bool false]) ∧ Below w.heap.size w w' := by
  have d1 : decide (k < 1) = true := by simp; omega
  clear h
  go_enter Tryd.func12, Tryd.ntmps12
  go_wp2_with fail
  refine bodyPost_ret (v := .tuple #[accV 0 0 0 0 0, .bool false]) (by simp [results, Tryd.f12, go_sem]) rfl ?_
  exact ⟨rfl, below_on (below_new _ _) _⟩
set_option maxHeartbeats 3200000 in
theorem RefDo_high (a : Option Addr) (n cap : Nat) (w : World) (k i x y o : Int) (h : 4 < k) :
    Calls Tryd.prog 12 #[.slice a n cap, accV k i x y o] w fun e w' => e = .returned (.tuple #[accV 0 0 0 0 0, .bool false]) ∧ Below w.heap.size w w' := by
  have d1 : decide (k < 1) = false := by simp; omega
  have d2 : decide (4 < k) = true := by simp; omega
  clear h
  go_enter Tryd.func12, Tryd.ntmps12
  go_wp2_with fail
  refine bodyPost_ret (v := .tuple #[accV 0 0 0 0 0, .bool false]) (by simp [results, Tryd.f12, go_sem]) rfl ?_
  exact ⟨rfl, below_on (below_new _ _) _⟩
set_option maxHeartbeats 3200000 in
theorem RefDo_under (a : Option Addr) (n cap : Nat) (w : World) (k i x y o : Int) (h : 1 ≤ k ∧ k ≤ 4 ∧ i < 0) :
    Calls Tryd.prog 12 #[.slice a n cap, accV k i x y o] w fun e w' => e = .returned (.tuple #[accV 0 0 0 0 0, .bool false]) ∧ Below w.heap.size w w' := by
  have d1 : decide (k < 1) = false := by simp; omega
  have d2 : decide (4 < k) = false := by simp; omega
  have d3 : decide (i < 0) = true := by simp; omega
  clear h
  go_enter Tryd.func12, Tryd.ntmps12
  go_wp2_with fail
  refine bodyPost_ret (v := .tuple #[accV 0 0 0 0 0, .bool false]) (by simp [results, Tryd.f12, go_sem]) rfl ?_
  exact ⟨rfl, below_on (below_new _ _) _⟩
set_option maxHeartbeats 3200000 in
theorem RefDo_over (a : Option Addr) (n cap : Nat) (w : World) (k i x y o : Int) (h : 1 ≤ k ∧ k ≤ 4 ∧ 0 ≤ i ∧ (n : Int) ≤ i) :
    Calls Tryd.prog 12 #[.slice a n cap, accV k i x y o] w fun e w' => e = .returned (.tuple #[accV 0 0 0 0 0, .bool false]) ∧ Below w.heap.size w w' := by
  have d1 : decide (k < 1) = false := by simp; omega
  have d2 : decide (4 < k) = false := by simp; omega
  have d3 : decide (i < 0) = false := by simp; omega
  have d4 : decide ((n : Int) ≤ i) = true := by simp; omega
  clear h
  go_enter Tryd.func12, Tryd.ntmps12
  go_wp2_with fail
  refine bodyPost_ret (v := .tuple #[accV 0 0 0 0 0, .bool false]) (by simp [results, Tryd.f12, go_sem]) rfl ?_
  exact ⟨rfl, below_on (below_new _ _) _⟩
theorem RefDo_bad (a : Option Addr) (n cap : Nat) (w : World) (k i x y o : Int) (h : ¬ (1 ≤ k ∧ k ≤ 4 ∧ 0 ≤ i ∧ i < n)) :
    Calls Tryd.prog 12 #[.slice a n cap, accV k i x y o] w fun e w' => e = .returned (.tuple #[accV 0 0 0 0 0, .bool false]) ∧ Below w.heap.size w w' := by
  by_cases h1 : k < 1
  · exact RefDo_low a n cap w k i x y o h1
  · by_cases h2 : 4 < k
    · exact RefDo_high a n cap w k i x y o h2
    · by_cases h3 : i < 0
      · exact RefDo_under a n cap w k i x y o (by omega)
      · exact RefDo_over a n cap w k i x y o (by omega)
theorem RefDo_good {R n cap : Nat} {f : Nat → Int} {w : World} (hR : RowAt w R 31 n f) (k : Int) (j : Nat) (hj : j < n) (x y o : Int) (hk : 1 ≤ k ∧ k ≤ 4) :
    Calls Tryd.prog 12 #[.slice (some ⟨R, 0, none⟩) n cap, accV k j x y o] w (RefPost w R n (doF f k j x y) (accV k j x y (f j))) := by
  obtain rfl | rfl | rfl | rfl : k = 1 ∨ k = 2 ∨ k = 3 ∨ k = 4 := by omega
  · exact RefDo_load hR j hj x y o
  · exact RefDo_store hR j hj x y o
  · by_cases hx : f j = x
    · rw [show doF f 3 j x y = upd f j y by unfold doF; rw [if_neg (by decide), if_pos rfl, if_pos hx]]
      exact RefDo_hit hR j hj x y o hx
    · rw [show doF f 3 j x y = f by unfold doF; rw [if_neg (by decide), if_pos rfl, if_neg hx]]
      exact RefDo_miss hR j hj x y o hx
  · exact RefDo_add hR j hj x y o
end Go.Proofs.YtdhejdehlomppaaDoor
