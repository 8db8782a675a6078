/- Laid together: ArenaRefDo, ArenaPlay. -/
import Derived.Test.YthdcapkchjamoaaGreatDoorArenaDo
/- The document's Do over a row of words of one's own: an access at a place that is there, of each kind; of no kind; at a place that isn't there. -/
namespace Go.Proofs.YthdcapkchjamoaaGreatDoor
open Go Go.RowKit
set_option maxRecDepth 100000
/-- What the document's Do answers at a place that is there. -/
def RefPost (w : World) (R n : Nat) (f' : Nat → Int) (v : Value) (e : Ending) (w' : World) : Prop := e = .returned (.tuple #[v, .bool true]) ∧ RowAt w' R 26 n f' ∧ Only R w w'
theorem ref_same {w : World} {R n : Nat} {f : Nat → Int} (h : RowAt w R 26 n f) (v : Value) (o1 o2 : Obj) : RefPost w R n f v (.returned (.tuple #[v, .bool true])) ((w.alloc o1).alloc o2) :=
  ⟨rfl, (h.below (below_new _ _)).below (below_new _ _), .of (below_on (below_new _ _) _)⟩
theorem ref_set {w : World} {R n : Nat} {f : Nat → Int} (h : RowAt w R 26 n f) (j : Nat) (x : Int) (v : Value) (o1 o2 : Obj) : RefPost w R n (upd f j x) v (.returned (.tuple #[v, .bool true])) (((w.setCell ⟨R, j, none⟩ (.int .u64 x)).alloc o1).alloc o2) :=
  ⟨rfl, ((h.set j x).below (below_new _ _)).below (below_new _ _), ((Only.of (Below.refl _ _)).set (p := ⟨R, j, none⟩) (.inl rfl) _).trans (.of (below_on (below_new _ _) _))⟩
set_option maxHeartbeats 3200000 in
theorem RefDo_load {R n cap : Nat} {f : Nat → Int} {w : World} (hR : RowAt w R 26 n f) (j : Nat) (hj : j < n) (x y o : Int) :
    Calls Tryz.prog 103 #[.slice (some ⟨R, 0, none⟩) n cap, accV 1 j x y o] w (RefPost w R n f (accV 1 j x y (f j))) := by
  have hlt := hR.lt
  have hc := hR.cell hj
  have hf := hR.frozen j
  have hne : R ≠ w.heap.size := by omega
  have hne1 : R ≠ w.heap.size + 1 := by omega
  have HR := Lib.hid hR
  generalize hv : f j = v at *
  have HV := Lib.hid hv; clear hv
  clear hR
  go_enter Tryz.func103, Tryz.ntmps103
  go_wp2_with fail
  refine bodyPost_ret (v := .tuple #[accV 1 j x y v, .bool true]) (by simp [results, Tryz.f103, go_sem]) rfl ?_
  exact ref_same HR.out _ _ _
set_option maxHeartbeats 3200000 in
theorem RefDo_store {R n cap : Nat} {f : Nat → Int} {w : World} (hR : RowAt w R 26 n f) (j : Nat) (hj : j < n) (x y o : Int) :
    Calls Tryz.prog 103 #[.slice (some ⟨R, 0, none⟩) n cap, accV 2 j x y o] w (RefPost w R n (upd f j x) (accV 2 j x y (f j))) := by
  have hlt := hR.lt
  have hc := hR.cell hj
  have hf := hR.frozen j
  have hne : R ≠ w.heap.size := by omega
  have hne1 : R ≠ w.heap.size + 1 := by omega
  have HR := Lib.hid hR
  generalize hv : f j = v at *
  have HV := Lib.hid hv; clear hv
  clear hR
  go_enter Tryz.func103, Tryz.ntmps103
  go_wp2_with fail
  refine bodyPost_ret (v := .tuple #[accV 2 j x y v, .bool true]) (by simp [results, Tryz.f103, go_sem]) rfl ?_
  exact ref_set HR.out j _ _ _ _
set_option maxHeartbeats 3200000 in
theorem RefDo_hit {R n cap : Nat} {f : Nat → Int} {w : World} (hR : RowAt w R 26 n f) (j : Nat) (hj : j < n) (x y o : Int) (hx : f j = x) :
    Calls Tryz.prog 103 #[.slice (some ⟨R, 0, none⟩) n cap, accV 3 j x y o] w (RefPost w R n (upd f j y) (accV 3 j x y (f j))) := by
  have hlt := hR.lt
  have hc := hR.cell hj
  have hf := hR.frozen j
  have hne : R ≠ w.heap.size := by omega
  have hne1 : R ≠ w.heap.size + 1 := by omega
  have HR := Lib.hid hR
  generalize hv : f j = v at *
  subst hx
  have HV := Lib.hid hv; clear hv
  clear hR
  go_enter Tryz.func103, Tryz.ntmps103
  go_wp2_with fail
  refine bodyPost_ret (v := .tuple #[accV 3 j v y v, .bool true]) (by simp [results, Tryz.f103, go_sem]) rfl ?_
  exact ref_set HR.out j _ _ _ _
set_option maxHeartbeats 3200000 in
theorem RefDo_miss {R n cap : Nat} {f : Nat → Int} {w : World} (hR : RowAt w R 26 n f) (j : Nat) (hj : j < n) (x y o : Int) (hx : ¬ f j = x) :
    Calls Tryz.prog 103 #[.slice (some ⟨R, 0, none⟩) n cap, accV 3 j x y o] w (RefPost w R n f (accV 3 j x y (f j))) := by
  have hlt := hR.lt
  have hc := hR.cell hj
  have hf := hR.frozen j
  have hne : R ≠ w.heap.size := by omega
  have hne1 : R ≠ w.heap.size + 1 := by omega
  have HR := Lib.hid hR
  have hq : (f j == x) = false := by rw [beq_eq_false_iff_ne]; exact hx
  clear hx
  generalize hv : f j = v at *
  have HV := Lib.hid hv; clear hv
  clear hR
  go_enter Tryz.func103, Tryz.ntmps103
  go_wp2_with fail
  refine bodyPost_ret (v := .tuple #[accV 3 j x y v, .bool true]) (by simp [results, Tryz.f103, go_sem]) rfl ?_
  exact ref_same HR.out _ _ _
set_option maxHeartbeats 3200000 in
theorem RefDo_add {R n cap : Nat} {f : Nat → Int} {w : World} (hR : RowAt w R 26 n f) (j : Nat) (hj : j < n) (x y o : Int) :
    Calls Tryz.prog 103 #[.slice (some ⟨R, 0, none⟩) n cap, accV 4 j x y o] w (RefPost w R n (upd f j (sumW (f j) x)) (accV 4 j x y (f j))) := by
  have hlt := hR.lt
  have hc := hR.cell hj
  have hf := hR.frozen j
  have hne : R ≠ w.heap.size := by omega
  have hne1 : R ≠ w.heap.size + 1 := by omega
  have HR := Lib.hid hR
  have hw := wrap_sum (f j) x
  generalize hv : f j = v at *
  have HV := Lib.hid hv; clear hv
  generalize sumW v x = z at *
  clear hR
  go_enter Tryz.func103, Tryz.ntmps103
  go_wp2_with fail
  refine bodyPost_ret (v := .tuple #[accV 4 j x y v, .bool true]) (by simp [results, Tryz.f103, go_sem]) rfl ?_
  exact ref_set HR.out j _ _ _ _
set_option maxHeartbeats 3200000 in
theorem RefDo_low (a : Option Addr) (n cap : Nat) (w : World) (k i x y o : Int) (h : k < 1) :
    Calls Tryz.prog 103 #[.slice a n cap, accV k i x y o] w fun e w' => e = .returned (.tuple #[accV 0 0 0 0 0, .bool false]) ∧ Below w.heap.size w w' := by
  have d1 : decide (k < 1) = true := by simp; omega
  clear h
  go_enter Tryz.func103, Tryz.ntmps103
  go_wp2_with fail
  refine bodyPost_ret (v := .tuple #[accV 0 0 0 0 0, .bool false]) (by simp [results, Tryz.f103, go_sem]) rfl ?_
  exact ⟨rfl, below_on (below_new _ _) _⟩
set_option maxHeartbeats 3200000 in
theorem RefDo_high (a : Option Addr) (n cap : Nat) (w : World) (k i x y o : Int) (h : 4 < k) :
    Calls Tryz.prog 103 #[.slice a n cap, accV k i x y o] w fun e w' => e = .returned (.tuple #[accV 0 0 0 0 0, .bool false]) ∧ Below w.heap.size w w' := by
  have d1 : decide (k < 1) = false := by simp; omega
  have d2 : decide (4 < k) = true := by simp; omega
  clear h
  go_enter Tryz.func103, Tryz.ntmps103
  go_wp2_with fail
  refine bodyPost_ret (v := .tuple #[accV 0 0 0 0 0, .bool false]) (by simp [results, Tryz.f103, go_sem]) rfl ?_
  exact ⟨rfl, below_on (below_new _ _) _⟩
set_option maxHeartbeats 3200000 in
theorem RefDo_under (a : Option Addr) (n cap : Nat) (w : World) (k i x y o : Int) (h : 1 ≤ k ∧ k ≤ 4 ∧ i < 0) :
    Calls Tryz.prog 103 #[.slice a n cap, accV k i x y o] w fun e w' => e = .returned (.tuple #[accV 0 0 0 0 0, .bool false]) ∧ Below w.heap.size w w' := by
  have d1 : decide (k < 1) = false := by simp; omega
  have d2 : decide (4 < k) = false := by simp; omega
  have d3 : decide (i < 0) = true := by simp; omega
  clear h
  go_enter Tryz.func103, Tryz.ntmps103
  go_wp2_with fail
  refine bodyPost_ret (v := .tuple #[accV 0 0 0 0 0, .bool false]) (by simp [results, Tryz.f103, go_sem]) rfl ?_
  exact ⟨rfl, below_on (below_new _ _) _⟩
set_option maxHeartbeats 3200000 in
theorem RefDo_over (a : Option Addr) (n cap : Nat) (w : World) (k i x y o : Int) (h : 1 ≤ k ∧ k ≤ 4 ∧ 0 ≤ i ∧ (n : Int) ≤ i) :
    Calls Tryz.prog 103 #[.slice a n cap, accV k i x y o] w fun e w' => e = .returned (.tuple #[accV 0 0 0 0 0, .bool false]) ∧ Below w.heap.size w w' := by
  have d1 : decide (k < 1) = false := by simp; omega
  have d2 : decide (4 < k) = false := by simp; omega
  have d3 : decide (i < 0) = false := by simp; omega
  have d4 : decide ((n : Int) ≤ i) = true := by simp; omega
  clear h
  go_enter Tryz.func103, Tryz.ntmps103
  go_wp2_with fail
  refine bodyPost_ret (v := .tuple #[accV 0 0 0 0 0, .bool false]) (by simp [results, Tryz.f103, go_sem]) rfl ?_
  exact ⟨rfl, below_on (below_new _ _) _⟩
theorem RefDo_bad (a : Option Addr) (n cap : Nat) (w : World) (k i x y o : Int) (h : ¬ (1 ≤ k ∧ k ≤ 4 ∧ 0 ≤ i ∧ i < n)) :
    Calls Tryz.prog 103 #[.slice a n cap, accV k i x y o] w fun e w' => e = .returned (.tuple #[accV 0 0 0 0 0, .bool false]) ∧ Below w.heap.size w w' := by
  by_cases h1 : k < 1
  · exact RefDo_low a n cap w k i x y o h1
  · by_cases h2 : 4 < k
    · exact RefDo_high a n cap w k i x y o h2
    · by_cases h3 : i < 0
      · exact RefDo_under a n cap w k i x y o (by omega)
      · exact RefDo_over a n cap w k i x y o (by omega)
theorem RefDo_good {R n cap : Nat} {f : Nat → Int} {w : World} (hR : RowAt w R 26 n f) (k : Int) (j : Nat) (hj : j < n) (x y o : Int) (hk : 1 ≤ k ∧ k ≤ 4) :
    Calls Tryz.prog 103 #[.slice (some ⟨R, 0, none⟩) n cap, accV k j x y o] w (RefPost w R n (doF f k j x y) (accV k j x y (f j))) := by
  obtain rfl | rfl | rfl | rfl : k = 1 ∨ k = 2 ∨ k = 3 ∨ k = 4 := by omega
  · exact RefDo_load hR j hj x y o
  · exact RefDo_store hR j hj x y o
  · by_cases hx : f j = x
    · rw [show doF f 3 j x y = upd f j y by unfold doF; rw [if_neg (by decide), if_pos rfl, if_pos hx]]
      exact RefDo_hit hR j hj x y o hx
    · rw [show doF f 3 j x y = f by unfold doF; rw [if_neg (by decide), if_pos rfl, if_neg hx]]
      exact RefDo_miss hR j hj x y o hx
  · exact RefDo_add hR j hj x y o
theorem Do_good {A G n : Nat} {f : Nat → Int} {w : World} (hA : ArenaAt w A G n f) (k : Int) (j : Nat) (hj : j < n) (x y o : Int) (hk : 1 ≤ k ∧ k ≤ 4) (hu : U64 (f j)) :
    Calls Tryz.prog 47 #[.pointer (some ⟨A, 0, none⟩), accV k j x y o] w (DoPost w A G n (doF f k j x y) (accV k j x y (f j)) true) := by
  obtain rfl | rfl | rfl | rfl : k = 1 ∨ k = 2 ∨ k = 3 ∨ k = 4 := by omega
  · exact Do_load hA j hj x y o
  · exact Do_store hA j hj x y o
  · by_cases hx : f j = x
    · rw [show doF f 3 j x y = upd f j y by unfold doF; rw [if_neg (by decide), if_pos rfl, if_pos hx]]
      exact Do_hit hA j hj x y o hx
    · rw [show doF f 3 j x y = f by unfold doF; rw [if_neg (by decide), if_pos rfl, if_neg hx]]
      exact Do_miss hA j hj x y o hx
  · exact Do_add hA j hj x y o hu
theorem Do_bad {A G n : Nat} {f : Nat → Int} {w : World} (hA : ArenaAt w A G n f) (k i x y o : Int) (h : ¬ (1 ≤ k ∧ k ≤ 4 ∧ 0 ≤ i ∧ i < n)) :
    Calls Tryz.prog 47 #[.pointer (some ⟨A, 0, none⟩), accV k i x y o] w (DoPost w A G n f (accV 0 0 0 0 0) false) := by
  by_cases hi : 0 ≤ i ∧ i < n
  · obtain ⟨j, rfl⟩ : ∃ j : Nat, i = j := ⟨i.toNat, by omega⟩
    exact Do_none hA k j (by omega) x y o (by omega)
  · exact (Do_out k i x y o (fun W hW => noPlace_out (hA.below hW) hi)).mono fun e w' ⟨h1, h2⟩ => ⟨h1, hA.below h2, .of h2⟩
end Go.Proofs.YthdcapkchjamoaaGreatDoor
/- An arena and a row of words of one's own, side by side: what is done to the one leaves the other alone. -/
namespace Go.Proofs.YthdcapkchjamoaaGreatDoor
open Go Go.RowKit
set_option maxRecDepth 100000

/-- Of what was there nothing has turned but the block that a slice begins at. -/
structure OnlyO (a : Option Addr) (w w' : World) : Prop where
  os : w'.os = w.os
  tape : w'.tape = w.tape
  output : w'.output = w.output
  size : w.heap.size ≤ w'.heap.size
  block : ∀ k, k < w.heap.size → a ≠ some ⟨k, 0, none⟩ → w'.heap[k]? = w.heap[k]?
/-- How it stands: the arena has the words f, the document's row the words h. -/
structure Play (w wr : World) (A G : Nat) (a : Option Addr) (n N M : Nat) (f h : Nat → Int) : Prop where
  old : Below w.heap.size w wr
  ar : ArenaAt wr A G n f
  mine : MineAt N wr a n h
  big : M ≤ wr.heap.size
  g0 : w.heap.size ≤ G
  apart : ∀ R, a = some ⟨R, 0, none⟩ → w.heap.size ≤ R ∧ R ≠ A ∧ R ≠ G ∧ R < M
namespace Play
variable {w wr W : World} {A G : Nat} {a : Option Addr} {n N M : Nat} {f f' h h' : Nat → Int}
theorem below (p : Play w wr A G a n N M f h) (hb : Below wr.heap.size wr W) : Play w W A G a n N M f h :=
  ⟨belowOn p.old hb, p.ar.below hb, p.mine.below hb, Nat.le_trans p.big hb.size, p.g0, p.apart⟩
theorem act (p : Play w wr A G a n N M f h) (ho : Only G wr W) (ha : ArenaAt W A G n f') : Play w W A G a n N M f' h := by
  refine ⟨p.old.trans (ho.below p.old.size p.g0), ha, ?_, Nat.le_trans p.big ho.size, p.g0, p.apart⟩
  rcases p.mine with e | ⟨R, e, hR, hr⟩
  · exact .inl e
  · exact .inr ⟨R, e, hR, hr.other (ho.block R hr.lt (p.apart R e).2.2.1)⟩
theorem ref (p : Play w wr A G a n N M f h) (ho : OnlyO a wr W) (hm : MineAt N W a n h') : Play w W A G a n N M f h' := by
  have ne : ∀ k, k < w.heap.size → a ≠ some ⟨k, 0, none⟩ := fun k hk e => by have := (p.apart k e).1; omega
  exact ⟨p.old.trans ⟨ho.os, ho.tape, ho.output, ho.size, fun k hk => ho.block k (by have := p.old.size; omega) (ne k hk)⟩, p.ar.other (ho.block A p.ar.lt (fun e => (p.apart A e).2.1 rfl)) (ho.block G p.ar.row.lt (fun e => (p.apart G e).2.2.1 rfl)), hm, Nat.le_trans p.big ho.size, p.g0, p.apart⟩
/-- A word of the row of one's own is written. -/
theorem put {R : Nat} (p : Play w wr A G (some ⟨R, 0, none⟩) n N M f h) (hn : 0 < n) (j : Nat) (s : Int) : Play w (wr.setCell ⟨R, j, none⟩ (.int .u64 s)) A G (some ⟨R, 0, none⟩) n N M f (upd h j s) := by
  refine p.ref ⟨rfl, rfl, rfl, by simp [World.setCell], fun k hk ne => Below.heap_setCell _ _ _ _ (fun e => ne (by rw [e]))⟩ ?_
  rcases p.mine with e | ⟨R', e, hR, hr⟩
  · omega
  · cases e
    exact .inr ⟨R, rfl, hR, hr.set j s⟩
/-- .. and what lies there. -/
theorem at' {b : Option Addr} (p : Play w wr A G b n N M f h) {j : Nat} (hj : j < n) : ∃ R, b = some ⟨R, 0, none⟩ ∧ wr.cell? ⟨R, j, none⟩ = some (.int .u64 (h j)) ∧ wr.frozen? ⟨R, j, none⟩ = false := by
  rcases p.mine with e | ⟨R, e, hR, hr⟩
  · omega
  · exact ⟨R, e, hr.cell hj, hr.frozen j⟩
end Play
end Go.Proofs.YthdcapkchjamoaaGreatDoor
