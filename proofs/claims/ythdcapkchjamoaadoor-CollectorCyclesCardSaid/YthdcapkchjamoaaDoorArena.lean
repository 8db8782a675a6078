/- Rows of words in memory, and an arena; sync/atomic's Uint64 (Load, Store, CompareAndSwap, Add) in one goroutine; package arena's Len, has, Load, Store, Cas and Add, for an arena and for a nil one, at every place. -/
import Derived.Test.YthdcapkchjamoaaDoorM1
import Derived.WalkKit
import Derived.WalkSmall
import Derived.IntWalk
import Derived.BigCall
import Derived.Lib.Hide
import Derived.Laws.LoneSync
import Derived.Laws.Pointers
import Derived.Below
import Derived.Deep.OwnRows
namespace Go.Proofs.YthdcapkchjamoaaDoor
open Go Go.RowKit
set_option maxRecDepth 100000

theorem newBlock (w : World) (o : Obj) : (w.alloc o).heap[w.heap.size]? = some o := by unfold World.alloc; exact Array.getElem?_push_size

/-- What a place holds then. -/
def upd (f : Nat → Int) (j : Nat) (x : Int) : Nat → Int := fun i => if i = j then x else f i
/-- A sum, round the word. -/
def sumW (a b : Int) : Int := (a + b) % 18446744073709551616
/-- A number that a word can be. -/
def U64 (x : Int) : Prop := 0 ≤ x ∧ x < 18446744073709551616
theorem sumW_u64 (a b : Int) : U64 (sumW a b) := ⟨Int.emod_nonneg _ (by decide), Int.emod_lt_of_pos _ (by decide)⟩
theorem wrap_sum (a b : Int) : IntKind.u64.wrap (a + b) = sumW a b := by rw [IntKind.wrap_u64]; rfl
theorem wrap_back {a : Int} (h : U64 a) (b : Int) : IntKind.u64.wrap (sumW a b - b) = a := by
  unfold sumW U64 at *; rw [IntKind.wrap_u64]; omega
/-- Words f 0, f 1, .. lie at the first n places of block R. -/
def RowAt (w : World) (R : Nat) (t : TypeId) (n : Nat) (f : Nat → Int) : Prop :=
  ∃ c : Array Value, w.heap[R]? = some (.cells c t (0, 0)) ∧ n ≤ c.size ∧ ∀ j, j < n → c[j]? = some (.int .u64 (f j))
namespace RowAt
variable {w w' : World} {R : Nat} {t : TypeId} {n : Nat} {f g : Nat → Int}
theorem cell (h : RowAt w R t n f) {j : Nat} (hj : j < n) : w.cell? ⟨R, j, none⟩ = some (.int .u64 (f j)) := by
  obtain ⟨c, hb, _, hc⟩ := h; simp [World.cell?, hb, hc j hj]
theorem frozen (h : RowAt w R t n f) (j : Nat) : w.frozen? ⟨R, j, none⟩ = false := by
  obtain ⟨c, hb, _, _⟩ := h; simp [World.frozen?, hb]
theorem lt (h : RowAt w R t n f) : R < w.heap.size := by
  obtain ⟨c, hb, _, _⟩ := h; exact (Array.getElem?_eq_some_iff.1 hb).1
theorem congr (h : RowAt w R t n f) (e : ∀ j, j < n → f j = g j) : RowAt w R t n g := by
  obtain ⟨c, hb, hn, hc⟩ := h; exact ⟨c, hb, hn, fun j hj => by rw [hc j hj, e j hj]⟩
theorem other (h : RowAt w R t n f) (e : w'.heap[R]? = w.heap[R]?) : RowAt w' R t n f := by
  obtain ⟨c, hb, hn, hc⟩ := h; exact ⟨c, e.trans hb, hn, hc⟩
theorem below (h : RowAt w R t n f) (hb : Below w.heap.size w w') : RowAt w' R t n f := h.other (hb.block _ h.lt)
theorem set (h : RowAt w R t n f) (p : Nat) (x : Int) : RowAt (w.setCell ⟨R, p, none⟩ (.int .u64 x)) R t n (upd f p x) := by
  obtain ⟨c, hb, hn, hc⟩ := h
  refine ⟨c.setIfInBounds p (.int .u64 x), by simp [World.setCell, Array.getElem?_modify, hb], by simpa using hn, fun j hj => ?_⟩
  rw [Array.getElem?_setIfInBounds]
  unfold upd
  by_cases e : j = p
  · subst e; rw [if_pos rfl, if_pos rfl, if_pos (by omega)]
  · rw [if_neg (fun h => e h.symm), if_neg e, hc j hj]
theorem setOther (h : RowAt w R t n f) {p : Addr} (hp : p.block ≠ R) (v : Value) : RowAt (w.setCell p v) R t n f := h.other (Below.heap_setCell _ _ _ _ (fun e => hp e.symm))
end RowAt
theorem RowAt.made (w : World) (n : Nat) (t : TypeId) : RowAt (w.alloc (.cells (madeCells #[.int .u64 0] n) t)) w.heap.size t n (fun _ => 0) :=
  ⟨_, newBlock _ _, by rw [size_madeCells]; exact Nat.le_refl _, fun j hj => by simp [madeCells, hj, Nat.mod_one]⟩
/-- An arena at A: its words lie in block G. -/
structure ArenaAt (w : World) (A G n : Nat) (f : Nat → Int) : Prop where
  ne : A ≠ G
  box : w.heap[A]? = some (.cells #[.slice (some ⟨G, 0, none⟩) n n] 83 (0, 0))
  row : RowAt w G 80 n f
  le : n ≤ 4611686018427387904
namespace ArenaAt
variable {w w' : World} {A G n : Nat} {f g : Nat → Int}
theorem cell (h : ArenaAt w A G n f) : w.cell? ⟨A, 0, none⟩ = some (.slice (some ⟨G, 0, none⟩) n n) := by simp [World.cell?, h.box]
theorem lt (h : ArenaAt w A G n f) : A < w.heap.size := (Array.getElem?_eq_some_iff.1 h.box).1
theorem other (h : ArenaAt w A G n f) (e1 : w'.heap[A]? = w.heap[A]?) (e2 : w'.heap[G]? = w.heap[G]?) : ArenaAt w' A G n f := ⟨h.ne, e1.trans h.box, h.row.other e2, h.le⟩
theorem below (h : ArenaAt w A G n f) (hb : Below w.heap.size w w') : ArenaAt w' A G n f := h.other (hb.block _ h.lt) (hb.block _ h.row.lt)
theorem set (h : ArenaAt w A G n f) (p : Nat) (x : Int) : ArenaAt (w.setCell ⟨G, p, none⟩ (.int .u64 x)) A G n (upd f p x) :=
  ⟨h.ne, (Below.heap_setCell _ _ _ _ h.ne).trans h.box, h.row.set p x, h.le⟩
theorem setOther (h : ArenaAt w A G n f) {p : Addr} (h1 : p.block ≠ A) (h2 : p.block ≠ G) (v : Value) : ArenaAt (w.setCell p v) A G n f :=
  h.other (Below.heap_setCell _ _ _ _ (fun e => h1 e.symm)) (Below.heap_setCell _ _ _ _ (fun e => h2 e.symm))
theorem congr (h : ArenaAt w A G n f) (e : ∀ j, j < n → f j = g j) : ArenaAt w A G n g := ⟨h.ne, h.box, h.row.congr e, h.le⟩
end ArenaAt

section
variable {a : Addr}
theorem aLoad_c (b j : Nat) (x : Int) (w : World) (hc : w.cell? ⟨b, j, none⟩ = some (.int .u64 x)) :
    Calls Tryd.prog 29 #[.pointer (some ⟨b, j, none⟩)] w fun e w' => e = .returned (.int .u64 x) ∧ w = w' := by
  have h := run_call_load (P := Tryd.prog) Tryd.func41 (by kernel_rfl) (by kernel_rfl) (by kernel_rfl) .u64 (by kernel_rfl) hc
  go_enter Tryd.func29, Tryd.ntmps29
  go_wp2
  go_ret
  exact ⟨rfl, rfl⟩
theorem aStore_c (b j : Nat) (x y : Int) (w : World) (hc : w.cell? ⟨b, j, none⟩ = some (.int .u64 x)) (hz : w.frozen? ⟨b, j, none⟩ = false) :
    Calls Tryd.prog 67 #[.pointer (some ⟨b, j, none⟩), .int .u64 y] w fun e w' => e = .returned (.tuple #[]) ∧ w' = w.setCell ⟨b, j, none⟩ (.int .u64 y) := by
  have h := run_call_store (P := Tryd.prog) Tryd.func78 (by kernel_rfl) (by kernel_rfl) (by kernel_rfl) (by kernel_rfl) (k := .u64) (y := y) hc hz
  go_enter Tryd.func67, Tryd.ntmps67
  go_wp2
  go_end0
  exact ⟨rfl, rfl⟩
theorem aCas_hit (b j : Nat) (x y : Int) (w : World) (hc : w.cell? ⟨b, j, none⟩ = some (.int .u64 x)) (hz : w.frozen? ⟨b, j, none⟩ = false) :
    Calls Tryd.prog 83 #[.pointer (some ⟨b, j, none⟩), .int .u64 x, .int .u64 y] w fun e w' => e = .returned (.bool true) ∧ w' = w.setCell ⟨b, j, none⟩ (.int .u64 y) := by
  have h := run_call_cas_hit (P := Tryd.prog) Tryd.func85 (by kernel_rfl) (by kernel_rfl) (by kernel_rfl) .u64 (by kernel_rfl) (y := y) hc hz
  go_enter Tryd.func83, Tryd.ntmps83
  go_wp2
  go_ret
  exact ⟨rfl, rfl⟩
theorem aCas_miss (b j : Nat) (x o y : Int) (hne : ¬ x = o) (w : World) (hc : w.cell? ⟨b, j, none⟩ = some (.int .u64 x)) (hz : w.frozen? ⟨b, j, none⟩ = false) :
    Calls Tryd.prog 83 #[.pointer (some ⟨b, j, none⟩), .int .u64 o, .int .u64 y] w fun e w' => e = .returned (.bool false) ∧ w = w' := by
  have h := run_call_cas_miss (P := Tryd.prog) Tryd.func85 (by kernel_rfl) (by kernel_rfl) (by kernel_rfl) .u64 (by kernel_rfl) (o := o) (y := y) hc hz hne
  go_enter Tryd.func83, Tryd.ntmps83
  go_wp2
  go_ret
  exact ⟨rfl, rfl⟩
theorem aAdd_c (b j : Nat) (x y : Int) (w : World) (hc : w.cell? ⟨b, j, none⟩ = some (.int .u64 x)) (hz : w.frozen? ⟨b, j, none⟩ = false) :
    Calls Tryd.prog 84 #[.pointer (some ⟨b, j, none⟩), .int .u64 y] w fun e w' => e = .returned (.int .u64 (sumW x y)) ∧ w' = w.setCell ⟨b, j, none⟩ (.int .u64 (sumW x y)) := by
  have h := run_call_add (P := Tryd.prog) Tryd.func86 (by kernel_rfl) (by kernel_rfl) (by kernel_rfl) .u64 (by kernel_rfl) (y := y) (s := sumW x y) hc hz (by simp [go_sem, wrap_sum])
  generalize sumW x y = s at *
  go_enter Tryd.func84, Tryd.ntmps84
  go_wp2
  go_ret
  exact ⟨rfl, rfl⟩
end

theorem Len_nil (w : World) : Calls Tryd.prog 26 #[.pointer none] w fun e w' => e = .returned (.int .i64 0) ∧ w = w' := by
  go_enter Tryd.func26, Tryd.ntmps26
  go_wp2
  go_ret
  exact ⟨rfl, rfl⟩
theorem Len_c {A G n : Nat} {f : Nat → Int} {w : World} (hA : ArenaAt w A G n f) :
    Calls Tryd.prog 26 #[.pointer (some ⟨A, 0, none⟩)] w fun e w' => e = .returned (.int .i64 n) ∧ w = w' := by
  have hc := hA.cell
  clear hA
  go_enter Tryd.func26, Tryd.ntmps26
  go_wp2
  go_ret
  exact ⟨rfl, rfl⟩
theorem has_nil (i : Int) (w : World) : Calls Tryd.prog 28 #[.pointer none, .int .i64 i] w fun e w' => e = .returned (.bool false) ∧ w = w' := by
  by_cases h : 0 ≤ i
  · have hd : decide (i < 0) = false := by simp; omega
    go_enter Tryd.func28, Tryd.ntmps28
    go_wp2_with fail
    refine (Len_nil _).mono ?_
    rintro e w' ⟨rfl, rfl⟩
    go_wp2_with fail
    go_ret
    exact ⟨rfl, rfl⟩
  · go_enter Tryd.func28, Tryd.ntmps28
    go_wp2_with fail
    go_ret
    exact ⟨rfl, rfl⟩
theorem has_c {A G n : Nat} {f : Nat → Int} {w : World} (hA : ArenaAt w A G n f) (i : Int) :
    Calls Tryd.prog 28 #[.pointer (some ⟨A, 0, none⟩), .int .i64 i] w fun e w' => e = .returned (.bool (decide (0 ≤ i ∧ i < n))) ∧ w = w' := by
  have HL := Lib.hid (Len_c hA)
  clear hA
  by_cases h : 0 ≤ i
  · by_cases h2 : i < n
    · have e : decide (0 ≤ i ∧ i < n) = true := by simp; omega
      rw [e]; clear e
      go_enter Tryd.func28, Tryd.ntmps28
      go_wp2_with fail
      refine HL.out.mono ?_
      rintro e w' ⟨rfl, rfl⟩
      go_wp2_with fail
      go_ret
      exact ⟨rfl, rfl⟩
    · have e : decide (0 ≤ i ∧ i < n) = false := by simp; omega
      have hd : decide (i < (n : Int)) = false := by simp; omega
      rw [e]; clear e
      go_enter Tryd.func28, Tryd.ntmps28
      go_wp2_with fail
      refine HL.out.mono ?_
      rintro e w' ⟨rfl, rfl⟩
      go_wp2_with fail
      go_ret
      exact ⟨rfl, rfl⟩
  · have e : decide (0 ≤ i ∧ i < n) = false := by simp; omega
    rw [e]; clear e
    go_enter Tryd.func28, Tryd.ntmps28
    go_wp2_with fail
    go_ret
    exact ⟨rfl, rfl⟩
theorem has_in {A G n : Nat} {f : Nat → Int} {w : World} (hA : ArenaAt w A G n f) {i : Int} (h : 0 ≤ i ∧ i < n) :
    Calls Tryd.prog 28 #[.pointer (some ⟨A, 0, none⟩), .int .i64 i] w fun e w' => e = .returned (.bool true) ∧ w = w' := by
  have := has_c hA i; rwa [decide_eq_true h] at this
/-- What a nil arena, or an arena at a place that isn't there, has in common: has answers false. -/
def NoPlace (w : World) (v : Value) (i : Int) : Prop :=
  Calls Tryd.prog 28 #[v, .int .i64 i] w fun e w' => e = .returned (.bool false) ∧ w = w'
theorem noPlace_nil (w : World) (i : Int) : NoPlace w (.pointer none) i := has_nil i w
theorem noPlace_out {A G n : Nat} {f : Nat → Int} {w : World} (hA : ArenaAt w A G n f) {i : Int} (h : ¬ (0 ≤ i ∧ i < n)) : NoPlace w (.pointer (some ⟨A, 0, none⟩)) i := by
  have := has_c hA i; rwa [decide_eq_false h] at this
theorem Load_out {w : World} {p : Option Addr} {i : Int} (h : NoPlace w (.pointer p) i) :
    Calls Tryd.prog 14 #[.pointer p, .int .i64 i] w fun e w' => e = .returned (.int .u64 0) ∧ w = w' := by
  have H := Lib.hid h; clear h
  go_enter Tryd.func14, Tryd.ntmps14
  go_wp2_with fail
  refine H.out.mono ?_
  rintro e w' ⟨rfl, rfl⟩
  go_wp2_with fail
  go_ret
  exact ⟨rfl, rfl⟩
theorem Store_out {w : World} {p : Option Addr} {i : Int} (h : NoPlace w (.pointer p) i) (x : Int) :
    Calls Tryd.prog 47 #[.pointer p, .int .i64 i, .int .u64 x] w fun e w' => e = .returned (.tuple #[]) ∧ w = w' := by
  have H := Lib.hid h; clear h
  go_enter Tryd.func47, Tryd.ntmps47
  go_wp2_with fail
  refine H.out.mono ?_
  rintro e w' ⟨rfl, rfl⟩
  go_wp2_with fail
  go_end0
  exact ⟨rfl, rfl⟩
theorem Cas_out {w : World} {p : Option Addr} {i : Int} (h : NoPlace w (.pointer p) i) (x y : Int) :
    Calls Tryd.prog 81 #[.pointer p, .int .i64 i, .int .u64 x, .int .u64 y] w fun e w' => e = .returned (.bool false) ∧ w = w' := by
  have H := Lib.hid h; clear h
  go_enter Tryd.func81, Tryd.ntmps81
  go_wp2_with fail
  refine H.out.mono ?_
  rintro e w' ⟨rfl, rfl⟩
  go_wp2_with fail
  go_ret
  exact ⟨rfl, rfl⟩
theorem Add_out {w : World} {p : Option Addr} {i : Int} (h : NoPlace w (.pointer p) i) (x : Int) :
    Calls Tryd.prog 82 #[.pointer p, .int .i64 i, .int .u64 x] w fun e w' => e = .returned (.int .u64 0) ∧ w = w' := by
  have H := Lib.hid h; clear h
  go_enter Tryd.func82, Tryd.ntmps82
  go_wp2_with fail
  refine H.out.mono ?_
  rintro e w' ⟨rfl, rfl⟩
  go_wp2_with fail
  go_ret
  exact ⟨rfl, rfl⟩
theorem Load_in {A G n : Nat} {f : Nat → Int} {w : World} (hA : ArenaAt w A G n f) (k : Nat) (hk : k < n) :
    Calls Tryd.prog 14 #[.pointer (some ⟨A, 0, none⟩), .int .i64 k] w fun e w' => e = .returned (.int .u64 (f k)) ∧ w = w' := by
  have H := Lib.hid (has_in hA (i := k) (by omega))
  have HX := Lib.hid (aLoad_c G k (f k) w (hA.row.cell hk))
  have hc := hA.cell
  have hle := hA.le
  generalize f k = x at *
  clear hA
  go_enter Tryd.func14, Tryd.ntmps14
  go_wp2_with fail
  refine H.out.mono ?_
  rintro e w' ⟨rfl, rfl⟩
  go_wp2_with fail
  refine HX.out.mono ?_
  rintro e w' ⟨rfl, rfl⟩
  go_wp2_with fail
  go_ret
  exact ⟨rfl, rfl⟩
theorem Store_in {A G n : Nat} {f : Nat → Int} {w : World} (hA : ArenaAt w A G n f) (k : Nat) (hk : k < n) (x : Int) :
    Calls Tryd.prog 47 #[.pointer (some ⟨A, 0, none⟩), .int .i64 k, .int .u64 x] w fun e w' => e = .returned (.tuple #[]) ∧ w' = w.setCell ⟨G, k, none⟩ (.int .u64 x) := by
  have H := Lib.hid (has_in hA (i := k) (by omega))
  have HX := Lib.hid (aStore_c G k (f k) x w (hA.row.cell hk) (hA.row.frozen k))
  have hc := hA.cell
  have hle := hA.le
  clear hA
  go_enter Tryd.func47, Tryd.ntmps47
  go_wp2_with fail
  refine H.out.mono ?_
  rintro e w' ⟨rfl, rfl⟩
  go_wp2_with fail
  refine HX.out.mono ?_
  rintro e w' ⟨rfl, rfl⟩
  go_wp2_with fail
  go_end0
  exact ⟨rfl, rfl⟩
theorem Cas_hit {A G n : Nat} {f : Nat → Int} {w : World} (hA : ArenaAt w A G n f) (k : Nat) (hk : k < n) (y : Int) :
    Calls Tryd.prog 81 #[.pointer (some ⟨A, 0, none⟩), .int .i64 k, .int .u64 (f k), .int .u64 y] w fun e w' => e = .returned (.bool true) ∧ w' = w.setCell ⟨G, k, none⟩ (.int .u64 y) := by
  have H := Lib.hid (has_in hA (i := k) (by omega))
  have HX := Lib.hid (aCas_hit G k (f k) y w (hA.row.cell hk) (hA.row.frozen k))
  have hc := hA.cell
  have hle := hA.le
  generalize f k = x at *
  clear hA
  go_enter Tryd.func81, Tryd.ntmps81
  go_wp2_with fail
  refine H.out.mono ?_
  rintro e w' ⟨rfl, rfl⟩
  go_wp2_with fail
  refine HX.out.mono ?_
  rintro e w' ⟨rfl, rfl⟩
  go_wp2_with fail
  go_ret
  exact ⟨rfl, rfl⟩
theorem Cas_miss {A G n : Nat} {f : Nat → Int} {w : World} (hA : ArenaAt w A G n f) (k : Nat) (hk : k < n) (x y : Int) (hne : ¬ f k = x) :
    Calls Tryd.prog 81 #[.pointer (some ⟨A, 0, none⟩), .int .i64 k, .int .u64 x, .int .u64 y] w fun e w' => e = .returned (.bool false) ∧ w = w' := by
  have H := Lib.hid (has_in hA (i := k) (by omega))
  have HX := Lib.hid (aCas_miss G k (f k) x y hne w (hA.row.cell hk) (hA.row.frozen k))
  have hc := hA.cell
  have hle := hA.le
  clear hA hne
  go_enter Tryd.func81, Tryd.ntmps81
  go_wp2_with fail
  refine H.out.mono ?_
  rintro e w' ⟨rfl, rfl⟩
  go_wp2_with fail
  refine HX.out.mono ?_
  rintro e w' ⟨rfl, rfl⟩
  go_wp2_with fail
  go_ret
  exact ⟨rfl, rfl⟩
theorem Add_in {A G n : Nat} {f : Nat → Int} {w : World} (hA : ArenaAt w A G n f) (k : Nat) (hk : k < n) (hf : U64 (f k)) (x : Int) :
    Calls Tryd.prog 82 #[.pointer (some ⟨A, 0, none⟩), .int .i64 k, .int .u64 x] w fun e w' => e = .returned (.int .u64 (f k)) ∧ w' = w.setCell ⟨G, k, none⟩ (.int .u64 (sumW (f k) x)) := by
  have H := Lib.hid (has_in hA (i := k) (by omega))
  have HX := Lib.hid (aAdd_c G k (f k) x w (hA.row.cell hk) (hA.row.frozen k))
  have hc := hA.cell
  have hle := hA.le
  have hw := wrap_back hf x
  generalize sumW (f k) x = s at *
  generalize f k = y at *
  clear hA hf
  go_enter Tryd.func82, Tryd.ntmps82
  go_wp2_with fail
  refine H.out.mono ?_
  rintro e w' ⟨rfl, rfl⟩
  go_wp2_with fail
  refine HX.out.mono ?_
  rintro e w' ⟨rfl, rfl⟩
  go_wp2_with fail
  go_ret
  exact ⟨rfl, rfl⟩
end Go.Proofs.YthdcapkchjamoaaDoor
