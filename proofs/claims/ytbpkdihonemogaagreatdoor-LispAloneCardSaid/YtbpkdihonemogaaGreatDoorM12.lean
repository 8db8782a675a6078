/- Laid together: LispNew, LispAlP, IdealAt, IdealCalls, IdealCopy, IdealNew, IdealCopy2, IdealTake. -/
import Derived.Test.YtbpkdihonemogaaGreatDoorLispKinds
import Derived.Test.YtbpkdihonemogaaGreatDoorM4
import Derived.Test.YtbpkdihonemogaaGreatDoorM7
import Derived.Test.YtbpkdihonemogaaGreatDoorM9
import Derived.Test.YtbpkdihonemogaaGreatDoorIdealPlain
import Derived.Deep.OwnRows
import Derived.Deep.AppendLies
import Derived.OwnWalk
import Derived.WalkSpells
import Derived.RegionTactic
import Derived.Laws.CopyOwn
/- A memory at first is that of the ideal store at first. -/
namespace Go.Proofs.YtbpkdihonemogaaGreatDoor
open Go Go.RowKit
set_option maxRecDepth 100000

theorem LMem.new {C : Cf} (hC : CfOK C) : LMem C (fstV C.a C.b C.c C.d) ⟨fun _ _ _ => 0, 0⟩ 0 ∧ fstV C.a C.b C.c C.d 3 = fstV C.a C.b C.c C.d 4 := by
  have h4 := hC.a4
  have ho : ∀ j : Nat, j < 5 → fstV C.a C.b C.c C.d j = if j = 0 then 1 else 0 := fun j hj => by
    unfold fstV
    rw [sp_once _ _ _ hj]
    by_cases e : j = 0
    · subst e; simp
    · simp [e]
  have hother : ∀ j : Nat, (spotF C.b C.c C.d j).1 ≠ 0 → (spotF C.b C.c C.d j).1 ≠ 5 → fstV C.a C.b C.c C.d j = 0 := fun j h0 h5 => by
    unfold fstV
    rw [if_neg (fun h => h5 h.1), if_neg (fun h => h0 h.1)]
  refine ⟨⟨fun i r a b c d => ?_, fun i a b => ?_, fun i a => absurd a (Nat.not_lt_zero _), fun i a => absurd a (Nat.not_lt_zero _), ?_, by omega, Nat.le_refl _, fun i a b => ?_, fun i a b => ?_, ?_⟩, ?_⟩
  · exact hother _ (by rw [(sp_reg hC a b c d).1]; simp) (by rw [(sp_reg hC a b c d).1]; simp)
  · exact hother _ (by rw [(sp_glob hC a b).1]; simp) (by rw [(sp_glob hC a b).1]; simp)
  · rw [ho 0 (by omega)]; rfl
  · have e := (sp_part hC (k := 1) (i := i) (by omega) (by omega) (by omega) (by omega)).1
    unfold fstV
    rw [e, if_pos ⟨rfl, b⟩]
  · have e := (sp_part hC (k := 1) (i := i) (by omega) (by omega) (by omega) (by omega)).1
    unfold fstV
    rw [e, if_neg (fun h => by have := h.2; simp at this; omega), if_neg (fun h => by have := h.1; simp at this)]
  · rw [ho 1 (by omega)]; rfl
  · rw [ho 3 (by omega), ho 4 (by omega)]; rfl
end Go.Proofs.YtbpkdihonemogaaGreatDoor
/- An operation by itself, step by step, beside the ideal store: without memory. -/
namespace Go.Proofs.YtbpkdihonemogaaGreatDoor
open Go Go.RowKit
set_option maxRecDepth 100000
attribute [local go_sem ↓] Go.wp_at_zero Go.wp_at_succ

/-- Its line, and that behind shading, are small. -/
def smM (x : Mu) : Prop := (0 ≤ x.l ∧ x.l ≤ 100) ∧ 0 ≤ x.bk ∧ x.bk ≤ 100
theorem firstL_sm (k : Int) : 0 ≤ firstL k ∧ firstL k ≤ 100 := by
  unfold firstL
  repeat' split
  all_goals omega
theorem begM_sm (x : Mu) (w k : Int) (hk : 0 ≤ k ∧ k ≤ 100) : smM (begM x w k) := by
  unfold begM smM begL begB
  dsimp only
  refine ⟨?_, ?_⟩
  · split <;> omega
  · split <;> omega
theorem gateS_sm {C : Cf} {s : Dy} {m : Int} {x : Mu} (h : smM x) : smM (gateS C s m x).2.1 := by
  have hf := firstL_sm x.q1
  obtain ⟨h1, h2⟩ := h
  unfold gateS
  repeat' split
  all_goals (refine ⟨?_, h2⟩; dsimp only; first | omega | exact hf | exact h1 | (split <;> omega))
theorem tickS_sm {C : Cf} {s : Dy} {x : Mu} (h : smM x) : smM (tickS C s x).2.1 := by
  obtain ⟨h1, h2⟩ := h
  unfold tickS
  repeat' split
  all_goals first | exact ⟨h1, h2⟩ | exact ⟨⟨by dsimp only; omega, by dsimp only; omega⟩, h2⟩
theorem barS_sm {C : Cf} {s : Dy} {x : Mu} (h : smM x) : smM (barS C s x).2.1 := by
  obtain ⟨h1, h2⟩ := h
  unfold barS
  repeat' split
  all_goals first | exact ⟨h1, h2⟩ | exact ⟨h2, by dsimp only; omega, by dsimp only; omega⟩ | exact ⟨⟨by dsimp only; omega, by dsimp only; omega⟩, h2⟩
theorem popS_sm {C : Cf} {s : Dy} {x : Mu} (h : smM x) : smM (popS C s x).2.1 := by
  obtain ⟨h1, h2⟩ := h
  unfold popS
  repeat' split
  all_goals first | exact ⟨h1, h2⟩ | exact ⟨⟨by dsimp only; omega, by dsimp only; omega⟩, h2⟩ | exact begM_sm x x.m4 37 (by omega)
theorem ownS_sm {C : Cf} {s : Dy} {m : Int} {x : Mu} (h : smM x) : smM (ownS C s m x).2.1 := by
  have hx := h
  obtain ⟨h1, h2⟩ := h
  unfold ownS
  by_cases e10 : x.l = 10
  · rw [if_pos e10]; first | exact begM_sm _ _ _ (by omega) | exact ⟨⟨by dsimp only; omega, by dsimp only; omega⟩, h2⟩ | (dsimp only; split <;> exact ⟨⟨by dsimp only; omega, by dsimp only; omega⟩, h2⟩)
  rw [if_neg e10]
  by_cases e11 : x.l = 11
  · rw [if_pos e11]; first | exact begM_sm _ _ _ (by omega) | exact ⟨⟨by dsimp only; omega, by dsimp only; omega⟩, h2⟩ | (dsimp only; split <;> exact ⟨⟨by dsimp only; omega, by dsimp only; omega⟩, h2⟩)
  rw [if_neg e11]
  by_cases e12 : x.l = 12
  · rw [if_pos e12]; first | exact begM_sm _ _ _ (by omega) | exact ⟨⟨by dsimp only; omega, by dsimp only; omega⟩, h2⟩ | (dsimp only; split <;> exact ⟨⟨by dsimp only; omega, by dsimp only; omega⟩, h2⟩)
  rw [if_neg e12]
  by_cases e13 : x.l = 13
  · rw [if_pos e13]; first | exact begM_sm _ _ _ (by omega) | exact ⟨⟨by dsimp only; omega, by dsimp only; omega⟩, h2⟩ | (dsimp only; split <;> exact ⟨⟨by dsimp only; omega, by dsimp only; omega⟩, h2⟩)
  rw [if_neg e13]
  by_cases e14 : x.l = 14
  · rw [if_pos e14]; first | exact begM_sm _ _ _ (by omega) | exact ⟨⟨by dsimp only; omega, by dsimp only; omega⟩, h2⟩ | (dsimp only; split <;> exact ⟨⟨by dsimp only; omega, by dsimp only; omega⟩, h2⟩)
  rw [if_neg e14]
  by_cases e15 : x.l = 15
  · rw [if_pos e15]; first | exact begM_sm _ _ _ (by omega) | exact ⟨⟨by dsimp only; omega, by dsimp only; omega⟩, h2⟩ | (dsimp only; split <;> exact ⟨⟨by dsimp only; omega, by dsimp only; omega⟩, h2⟩)
  rw [if_neg e15]
  by_cases e16 : x.l = 16
  · rw [if_pos e16]; first | exact begM_sm _ _ _ (by omega) | exact ⟨⟨by dsimp only; omega, by dsimp only; omega⟩, h2⟩ | (dsimp only; split <;> exact ⟨⟨by dsimp only; omega, by dsimp only; omega⟩, h2⟩)
  rw [if_neg e16]
  by_cases e17 : x.l = 17
  · rw [if_pos e17]; first | exact begM_sm _ _ _ (by omega) | exact ⟨⟨by dsimp only; omega, by dsimp only; omega⟩, h2⟩ | (dsimp only; split <;> exact ⟨⟨by dsimp only; omega, by dsimp only; omega⟩, h2⟩)
  rw [if_neg e17]
  by_cases e18 : x.l = 18
  · rw [if_pos e18]; first | exact begM_sm _ _ _ (by omega) | exact ⟨⟨by dsimp only; omega, by dsimp only; omega⟩, h2⟩ | (dsimp only; split <;> exact ⟨⟨by dsimp only; omega, by dsimp only; omega⟩, h2⟩)
  rw [if_neg e18]
  by_cases e19 : x.l = 19
  · rw [if_pos e19]; first | exact begM_sm _ _ _ (by omega) | exact ⟨⟨by dsimp only; omega, by dsimp only; omega⟩, h2⟩ | (dsimp only; split <;> exact ⟨⟨by dsimp only; omega, by dsimp only; omega⟩, h2⟩)
  rw [if_neg e19]
  by_cases e20 : x.l = 20
  · rw [if_pos e20]; first | exact begM_sm _ _ _ (by omega) | exact ⟨⟨by dsimp only; omega, by dsimp only; omega⟩, h2⟩ | (dsimp only; split <;> exact ⟨⟨by dsimp only; omega, by dsimp only; omega⟩, h2⟩)
  rw [if_neg e20]
  by_cases e21 : x.l = 21
  · rw [if_pos e21]; first | exact begM_sm _ _ _ (by omega) | exact ⟨⟨by dsimp only; omega, by dsimp only; omega⟩, h2⟩ | (dsimp only; split <;> exact ⟨⟨by dsimp only; omega, by dsimp only; omega⟩, h2⟩)
  rw [if_neg e21]
  by_cases e22 : x.l = 22
  · rw [if_pos e22]; first | exact begM_sm _ _ _ (by omega) | exact ⟨⟨by dsimp only; omega, by dsimp only; omega⟩, h2⟩ | (dsimp only; split <;> exact ⟨⟨by dsimp only; omega, by dsimp only; omega⟩, h2⟩)
  rw [if_neg e22]
  by_cases e23 : x.l = 23
  · rw [if_pos e23]; first | exact begM_sm _ _ _ (by omega) | exact ⟨⟨by dsimp only; omega, by dsimp only; omega⟩, h2⟩ | (dsimp only; split <;> exact ⟨⟨by dsimp only; omega, by dsimp only; omega⟩, h2⟩)
  rw [if_neg e23]
  by_cases e24 : x.l = 24
  · rw [if_pos e24]; first | exact begM_sm _ _ _ (by omega) | exact ⟨⟨by dsimp only; omega, by dsimp only; omega⟩, h2⟩ | (dsimp only; split <;> exact ⟨⟨by dsimp only; omega, by dsimp only; omega⟩, h2⟩)
  rw [if_neg e24]
  by_cases e30 : x.l = 30
  · rw [if_pos e30]; first | exact begM_sm _ _ _ (by omega) | exact ⟨⟨by dsimp only; omega, by dsimp only; omega⟩, h2⟩ | (dsimp only; split <;> exact ⟨⟨by dsimp only; omega, by dsimp only; omega⟩, h2⟩)
  rw [if_neg e30]
  by_cases e31 : x.l = 31
  · rw [if_pos e31]; first | exact begM_sm _ _ _ (by omega) | exact ⟨⟨by dsimp only; omega, by dsimp only; omega⟩, h2⟩ | (dsimp only; split <;> exact ⟨⟨by dsimp only; omega, by dsimp only; omega⟩, h2⟩)
  rw [if_neg e31]
  by_cases e38 : x.l = 38
  · rw [if_pos e38]; first | exact begM_sm _ _ _ (by omega) | exact ⟨⟨by dsimp only; omega, by dsimp only; omega⟩, h2⟩ | (dsimp only; split <;> exact ⟨⟨by dsimp only; omega, by dsimp only; omega⟩, h2⟩)
  rw [if_neg e38]
  by_cases e39 : x.l = 39
  · rw [if_pos e39]; first | exact begM_sm _ _ _ (by omega) | exact ⟨⟨by dsimp only; omega, by dsimp only; omega⟩, h2⟩ | (dsimp only; split <;> exact ⟨⟨by dsimp only; omega, by dsimp only; omega⟩, h2⟩)
  rw [if_neg e39]
  by_cases e40 : x.l = 40
  · rw [if_pos e40]; first | exact begM_sm _ _ _ (by omega) | exact ⟨⟨by dsimp only; omega, by dsimp only; omega⟩, h2⟩ | (dsimp only; split <;> exact ⟨⟨by dsimp only; omega, by dsimp only; omega⟩, h2⟩)
  rw [if_neg e40]
  exact hx
theorem lispS_sm {C : Cf} {s : Dy} {m : Int} {x : Mu} (h : smM x) : smM (lispS C s m x).2.1 := by
  unfold lispS
  split
  · exact gateS_sm h
  · split
    · exact tickS_sm h
    · split
      · exact popS_sm h
      · split
        · exact barS_sm h
        · exact ownS_sm h
/-- Within an operation by itself: behind k steps, l of them linearising ones. -/
structure InSt (C : Cf) (m : Int) (fE : Nat → Int) (xE : Mu) (k : Nat) (l : Int) (s : Dy) (x : Mu) (d : Bool) : Prop where
  us : s.U
  ux : x.U
  sm : smM x
  l0 : 0 ≤ l ∧ l ≤ k
  q1 : 1 ≤ x.q1 ∧ x.q1 ≤ 11
  q3 : x.q3 ≤ 9223372036854775807
  at' : (d = true ∧ s.f = fE ∧ x = xE ∧ l = 1 ∧ k ≤ 40) ∨ (d = false ∧ ∃ (j : Nat) (l' : Int), k + j ≤ 40 ∧ l + l' = 1 ∧ EndsF C m j l' s.f x fE xE)
theorem InSt.go {C : Cf} {m : Int} {fE : Nat → Int} {xE : Mu} {k : Nat} {l : Int} {s : Dy} {x : Mu} (h : InSt C m fE xE k l s x false) :
    k < 40 ∧ ∃ s' x' b d, lispS C s m x = (s', x', b, d) ∧ InSt C m fE xE (k + 1) (l + bI b) s' x' d := by
  have hl := h.l0
  have hb : ∀ b : Bool, 0 ≤ bI b ∧ bI b ≤ 1 := fun b => by cases b <;> decide
  rcases h.at' with ⟨e, _⟩ | ⟨_, j, l', hj, hll, he⟩
  · cases e
  · have hp := he.pos
    refine ⟨by omega, ?_⟩
    obtain ⟨s', x', b, d, e, hd⟩ := he.go rfl
    have hu := lispS_U (C := C) h.us m h.ux h.q3
    have hq := lispS_q (C := C) (s := s) m x
    have hs := lispS_sm (C := C) (s := s) (m := m) h.sm
    rw [e] at hu hq hs
    refine ⟨s', x', b, d, e, hu.1, hu.2, hs, by have := hb b; omega, by rw [hq.1]; exact h.q1, by rw [hq.2.2.1]; exact h.q3, ?_⟩
    rcases hd with ⟨rfl, h1, h2, h3⟩ | ⟨rfl, j', l2, h1, h2, h3⟩
    · exact .inl ⟨rfl, h1, h2, by omega, by omega⟩
    · exact .inr ⟨rfl, j', l2, by omega, by omega, h3⟩
theorem InSt.done {C : Cf} {m : Int} {fE : Nat → Int} {xE : Mu} {k : Nat} {l : Int} {s : Dy} {x : Mu} (h : InSt C m fE xE k l s x true) : s.f = fE ∧ x = xE ∧ l = 1 := by
  rcases h.at' with ⟨_, h1, h2, h3, _⟩ | ⟨e, _⟩
  · exact ⟨h1, h2, h3⟩
  · cases e
/-- Memory is the ideal store's. -/
structure AlP (C : Cf) (s : Dy) (σ : St) : Prop where
  mem : LMem C s.f σ σ.n
  lock : s.f 3 = s.f 4
  us : s.U
theorem AlP.first {C : Cf} (hC : CfOK C) : AlP C ⟨fstV C.a C.b C.c C.d, 0, 0, 0, 0, 0⟩ ⟨fun _ _ _ => 0, 0⟩ := ⟨(LMem.new hC).1, (LMem.new hC).2, fst_u64 hC.right⟩
/-- A right operation of a mutator. -/
theorem good_of {a : Int} {b c d : Nat} {m k x y z : Int} (hr : Right a b c d) (h : checkF a b c d k x y z = 0) (hm : 0 ≤ m ∧ m < b) : goodOp b c d m k x y z := by
  refine ⟨hm.1, hm.2, ?_⟩
  have hr2 : Right 2 b c d := by unfold Right at hr ⊢; omega
  unfold checkF at h ⊢
  rw [if_pos hr] at h
  rw [if_pos hr2]
  exact h
/-- An operation by itself. -/
theorem AlP.op {n : Nat} {a : Int} {b c d : Nat} (hC : CfOK ⟨n, a, b, c, d⟩) {s : Dy} {σ : St} (h : AlP ⟨n, a, b, c, d⟩ s σ) (hI : Inv b c d σ) {m k x y z : Int} (hg : goodOp b c d m k x y z) (hy : y ≤ 9223372036854775807) :
    ∃ fE xE, InSt ⟨n, a, b, c, d⟩ m fE xE 0 0 s ⟨1, k, x, y, z, 0, 0, 0, 0, 0, 0, 0, 0⟩ false ∧ ((xE.rt = 5 ∧ (σ.n : Int) + 1 = a) ∨ (xE.rt ≠ 5 ∧ xE.rt = doR b c d σ m k x y z false ∧ LMem ⟨n, a, b, c, d⟩ fE (doS b c d σ m k x y z false) (doS b c d σ m k x y z false).n ∧ fE 3 = fE 4)) := by
  have hgn := hg.nums
  obtain ⟨j, fE, xE, hj, he, hQ⟩ := alone_any (C := ⟨n, a, b, c, d⟩) hC h.mem h.lock ⟨hg.1, hg.2.1⟩ hI hg
  refine ⟨fE, xE, ⟨h.us, ⟨u64_zero, u64_zero, u64_zero, u64_zero, u64_zero, u64_zero⟩, ⟨⟨by dsimp only; omega, by dsimp only; omega⟩, by dsimp only; omega, by dsimp only; omega⟩, ⟨by omega, by omega⟩, hgn.1, hy, .inr ⟨rfl, j, 1, by omega, by omega, he⟩⟩, ?_⟩
  rcases hQ with ⟨h1, h2, h3⟩ | ⟨h1, h2, h3, h4, h5⟩
  · exact .inl ⟨h3, h2⟩
  · refine .inr ⟨h3, ?_, ?_, h5⟩
    · unfold doR; rw [if_pos hg]; exact h2
    · unfold doS; rw [if_pos hg]; exact h4
end Go.Proofs.YtbpkdihonemogaaGreatDoor
/- The ideal store in memory: its numbers, registers, globals and cells; what is told of each place; what a call leaves alone. -/
namespace Go.Proofs.YtbpkdihonemogaaGreatDoor.Il
open Go Go.RowKit
set_option maxRecDepth 100000

theorem newBlock (w : World) (o : Obj) : (w.alloc o).heap[w.heap.size]? = some o := by unfold World.alloc; exact Array.getElem?_push_size
/-- What may have turned: what S names, and what is new. -/
structure Sav (S : Nat → Prop) (w w' : World) : Prop where
  os : w'.os = w.os
  tape : w'.tape = w.tape
  output : w'.output = w.output
  size : w.heap.size ≤ w'.heap.size
  block : ∀ k, k < w.heap.size → ¬ S k → w'.heap[k]? = w.heap[k]?
namespace Sav
variable {S S' : Nat → Prop} {w w' w'' : World}
theorem refl : Sav S w w := ⟨rfl, rfl, rfl, Nat.le_refl _, fun _ _ _ => rfl⟩
theorem of (h : Below w.heap.size w w') : Sav S w w' := ⟨h.os, h.tape, h.output, h.size, fun k hk _ => h.block k hk⟩
theorem trans (h : Sav S w w') (k : Sav S w' w'') : Sav S w w'' :=
  ⟨k.os.trans h.os, k.tape.trans h.tape, k.output.trans h.output, Nat.le_trans h.size k.size, fun i hi hn => (k.block i (Nat.lt_of_lt_of_le hi h.size) hn).trans (h.block i hi hn)⟩
/-- Two steps, the second of which may also turn what is new behind the first's beginning. -/
theorem then' (h : Sav S w w') (k : Sav S' w' w'') (hs : ∀ i, i < w.heap.size → S' i → S i) : Sav S w w'' :=
  ⟨k.os.trans h.os, k.tape.trans h.tape, k.output.trans h.output, Nat.le_trans h.size k.size, fun i hi hn => (k.block i (Nat.lt_of_lt_of_le hi h.size) (fun e => hn (hs i hi e))).trans (h.block i hi hn)⟩
theorem mono (h : Sav S w w') (hs : ∀ k, S k → S' k) : Sav S' w w' := ⟨h.os, h.tape, h.output, h.size, fun k hk hn => h.block k hk (fun e => hn (hs k e))⟩
theorem set (h : Sav S w w') {p : Addr} (hp : S p.block ∨ w.heap.size ≤ p.block) (v : Value) : Sav S w (w'.setCell p v) :=
  ⟨h.os, h.tape, h.output, by have := h.size; simpa [World.setCell] using this, fun k hk hn => (Below.heap_setCell _ _ _ _ (fun e => by
    rcases hp with hp | hp
    · exact hn (e ▸ hp)
    · omega)).trans (h.block k hk hn)⟩
theorem alloc (h : Sav S w w') (o : Obj) : Sav S w (w'.alloc o) := ⟨h.os, h.tape, h.output, by have := h.size; simp; omega, fun k hk hn => (Below.heap_alloc _ _ _ (by have := h.size; omega)).trans (h.block k hk hn)⟩
theorem drew (h : Sav S w w') : Sav S w w'.drew := ⟨h.os, h.tape, h.output, h.size, h.block⟩
theorem below (h : Sav S w w') {B : Nat} (h1 : B ≤ w.heap.size) (h2 : ∀ k, k < B → ¬ S k) : Below B w w' := ⟨h.os, h.tape, h.output, h.size, fun k hk => h.block k (by omega) (h2 k hk)⟩
end Sav
/-- What a place holds then. -/
def updN (f : Nat → Nat) (j : Nat) (x : Nat) : Nat → Nat := fun i => if i = j then x else f i
/-- Words f 0, f 1, .. lie at the first n places of block R. -/
def RowN (w : World) (R : Nat) (t : TypeId) (n : Nat) (f : Nat → Nat) : Prop :=
  ∃ c : Array Value, w.heap[R]? = some (.cells c t (0, 0)) ∧ n ≤ c.size ∧ ∀ j, j < n → c[j]? = some (.int .u64 (f j))
namespace RowN
variable {w w' : World} {R : Nat} {t : TypeId} {n : Nat} {f g : Nat → Nat}
theorem cell (h : RowN w R t n f) {j : Nat} (hj : j < n) : w.cell? ⟨R, j, none⟩ = some (.int .u64 (f j)) := by
  obtain ⟨c, hb, _, hc⟩ := h; simp [World.cell?, hb, hc j hj]
theorem frozen (h : RowN w R t n f) (j : Nat) : w.frozen? ⟨R, j, none⟩ = false := by
  obtain ⟨c, hb, _, _⟩ := h; simp [World.frozen?, hb]
theorem lt (h : RowN w R t n f) : R < w.heap.size := by
  obtain ⟨c, hb, _, _⟩ := h; exact (Array.getElem?_eq_some_iff.1 hb).1
theorem congr (h : RowN w R t n f) (e : ∀ j, j < n → f j = g j) : RowN w R t n g := by
  obtain ⟨c, hb, hn, hc⟩ := h; exact ⟨c, hb, hn, fun j hj => by rw [hc j hj, e j hj]⟩
theorem other (h : RowN w R t n f) (e : w'.heap[R]? = w.heap[R]?) : RowN w' R t n f := by
  obtain ⟨c, hb, hn, hc⟩ := h; exact ⟨c, e.trans hb, hn, hc⟩
theorem set (h : RowN w R t n f) (p : Nat) (x : Nat) : RowN (w.setCell ⟨R, p, none⟩ (.int .u64 x)) R t n (updN f p x) := by
  obtain ⟨c, hb, hn, hc⟩ := h
  refine ⟨c.setIfInBounds p (.int .u64 x), by simp [World.setCell, Array.getElem?_modify, hb], by simpa using hn, fun j hj => ?_⟩
  rw [Array.getElem?_setIfInBounds]
  unfold updN
  by_cases e : j = p
  · subst e; rw [if_pos rfl, if_pos rfl, if_pos (by omega)]
  · rw [if_neg (fun h => e h.symm), if_neg e, hc j hj]
end RowN
theorem RowN.made (w : World) (n : Nat) (t : TypeId) : RowN (w.alloc (.cells (madeCells #[.int .u64 0] n) t)) w.heap.size t n (fun _ => 0) :=
  ⟨_, newBlock _ _, by rw [size_madeCells]; exact Nat.le_refl _, fun j hj => by simp [madeCells, hj, Nat.mod_one]⟩
/-- The values of n cells of two words each. -/
def wordsL (n : Nat) (f : Nat → Nat) : List Value := (List.range n).map fun j => .int .u64 (f j)
theorem wordsL_get (n : Nat) (f : Nat → Nat) (j : Nat) (h : j < n) : (wordsL n f)[j]? = some (.int .u64 (f j)) := by simp [wordsL, h]
theorem wordsL_len (n : Nat) (f : Nat → Nat) : (wordsL n f).length = n := by simp [wordsL]
/-- A slice of n cells that were made. -/
def MadeAt (w : World) (v : Value) (n : Nat) (f : Nat → Nat) : Prop := w.ownsRow 0 103 2 v n (wordsL (n * 2) f)
namespace MadeAt
variable {w w' : World} {v : Value} {n : Nat} {f g : Nat → Nat}
theorem form (h : MadeAt w v n f) : ∃ a cap, v = .slice a n cap := by
  rcases h.2 with ⟨rfl, rfl⟩ | ⟨g, cap, cur, rfl, _⟩
  · exact ⟨_, _, rfl⟩
  · exact ⟨_, _, rfl⟩
theorem row (h : MadeAt w v n f) (hn : 0 < n) : ∃ M cap, v = .slice (some ⟨M, 0, none⟩) n cap ∧ RowN w M 103 (n * 2) f := by
  rcases h.2 with ⟨_, h0⟩ | ⟨M, cap, cur, hv, _, hM, hnc, _, hs, ht⟩
  · omega
  · refine ⟨M, cap, hv, cur, hM, by rw [hs]; exact Nat.mul_le_mul_right _ hnc, fun j hj => ?_⟩
    have e := congrArg (·[j]?) ht
    simp only [List.getElem?_take, hj, if_true, wordsL_get _ _ _ hj] at e
    simpa using e
theorem other (h : MadeAt w v n f) (e : ∀ k, v.ownBlock = some k → w'.heap[k]? = w.heap[k]?) : MadeAt w' v n f := by
  refine ⟨h.1, ?_⟩
  rcases h.2 with h0 | ⟨M, cap, cur, rfl, hb, hM, rest⟩
  · exact .inl h0
  · exact .inr ⟨M, cap, cur, rfl, hb, (e M rfl).trans hM, rest⟩
theorem lt (h : MadeAt w v n f) : ∀ k, v.ownBlock = some k → k < w.heap.size := fun k e => (World.ownsRow.lt h k e).2
theorem congr (h : MadeAt w v n f) (e : ∀ j, j < n * 2 → f j = g j) : MadeAt w v n g := by
  have : wordsL (n * 2) g = wordsL (n * 2) f := List.map_congr_left (fun j hj => by rw [e j (List.mem_range.1 hj)])
  unfold MadeAt; rw [this]; exact h
theorem set {M cap : Nat} (h : MadeAt w (.slice (some ⟨M, 0, none⟩) n cap) n f) (p x : Nat) : MadeAt (w.setCell ⟨M, p, none⟩ (.int .u64 x)) (.slice (some ⟨M, 0, none⟩) n cap) n (updN f p x) := by
  refine ⟨by rw [wordsL_len], ?_⟩
  rcases h.2 with ⟨h0, _⟩ | ⟨M', cap', cur, hv, hb, hM, hnc, hcm, hs, ht⟩
  · cases h0
  · cases hv
    refine .inr ⟨M, cap, cur.setIfInBounds p (.int .u64 x), rfl, hb, by simp [World.setCell, Array.getElem?_modify, hM], hnc, hcm, by simpa using hs, ?_⟩
    apply List.ext_getElem?
    intro j
    by_cases hj : j < n * 2
    · have e := congrArg (·[j]?) ht
      simp only [List.getElem?_take, hj, if_true, wordsL_get _ _ _ hj] at e
      have hlt : j < cur.size := by rw [hs]; exact Nat.lt_of_lt_of_le hj (Nat.mul_le_mul_right _ hnc)
      rw [List.getElem?_take, if_pos hj, wordsL_get _ _ _ hj]
      unfold updN
      by_cases ej : j = p
      · subst ej
        simp [hlt]
      · rw [if_neg ej]
        have : (cur.setIfInBounds p (Value.int .u64 x)).toList[j]? = cur.toList[j]? := by
          rw [Array.toList_setIfInBounds, List.getElem?_set_ne (fun e' => ej e'.symm)]
        rw [this]; exact e
    · rw [List.getElem?_take, if_neg hj, List.getElem?_eq_none (by rw [wordsL_len]; omega)]
end MadeAt
def regF (s : St) (c : Nat) (j : Nat) : Nat := s.g 0 ((j / c : Nat) : Int) ((j % c : Nat) : Int)
def globF (s : St) (j : Nat) : Nat := s.g 1 (j : Int) 0
def madeF (s : St) (j : Nat) : Nat := s.g (2 + ((j % 2 : Nat) : Int)) ((j / 2 : Nat) : Int) 0
/-- The blocks of a store. -/
def foot (X R L : Nat) (v : Value) (k : Nat) : Prop := k = X ∨ k = R ∨ k = L ∨ v.ownBlock = some k
/-- A store at X. -/
structure StoreAt (w : World) (X R L : Nat) (v : Value) (b c d : Nat) (s : St) : Prop where
  box : w.heap[X]? = some (.cells #[.int .i64 2, .int .i64 b, .int .i64 c, .int .i64 d, .slice (some ⟨R, 0, none⟩) (b * c) (b * c), .slice (some ⟨L, 0, none⟩) d d, v] 78 (0, 0))
  regs : RowN w R 28 (b * c) (regF s c)
  globs : RowN w L 28 d (globF s)
  made : MadeAt w v s.n (madeF s)
  xR : X ≠ R
  xL : X ≠ L
  rL : R ≠ L
  vX : v.ownBlock ≠ some X
  vR : v.ownBlock ≠ some R
  vL : v.ownBlock ≠ some L
  inv : Inv b c d s
  right : Right 2 b c d
  few : s.n ≤ 1000000
namespace StoreAt
variable {w w' : World} {X R L : Nat} {v : Value} {b c d : Nat} {s : St}
theorem cells (h : StoreAt w X R L v b c d s) : w.cell? ⟨X, 0, none⟩ = some (.int .i64 2) ∧ w.cell? ⟨X, 1, none⟩ = some (.int .i64 b) ∧ w.cell? ⟨X, 2, none⟩ = some (.int .i64 c) ∧ w.cell? ⟨X, 3, none⟩ = some (.int .i64 d) ∧ w.cell? ⟨X, 4, none⟩ = some (.slice (some ⟨R, 0, none⟩) (b * c) (b * c)) ∧ w.cell? ⟨X, 5, none⟩ = some (.slice (some ⟨L, 0, none⟩) d d) ∧ w.cell? ⟨X, 6, none⟩ = some v ∧ (∀ j, w.frozen? ⟨X, j, none⟩ = false) := by
  have h := h.box
  refine ⟨by simp [World.cell?, h], by simp [World.cell?, h], by simp [World.cell?, h], by simp [World.cell?, h], by simp [World.cell?, h], by simp [World.cell?, h], by simp [World.cell?, h], fun j => by simp [World.frozen?, h]⟩
theorem lt (h : StoreAt w X R L v b c d s) : ∀ k, foot X R L v k → k < w.heap.size := by
  rintro k (rfl | rfl | rfl | e)
  · exact (Array.getElem?_eq_some_iff.1 h.box).1
  · exact h.regs.lt
  · exact h.globs.lt
  · exact h.made.lt k e
theorem other (h : StoreAt w X R L v b c d s) (e : ∀ k, foot X R L v k → w'.heap[k]? = w.heap[k]?) : StoreAt w' X R L v b c d s :=
  ⟨(e X (.inl rfl)).trans h.box, h.regs.other (e R (.inr (.inl rfl))), h.globs.other (e L (.inr (.inr (.inl rfl)))), h.made.other (fun k hk => e k (.inr (.inr (.inr hk)))), h.xR, h.xL, h.rL, h.vX, h.vR, h.vL, h.inv, h.right, h.few⟩
theorem below (h : StoreAt w X R L v b c d s) (hb : Below w.heap.size w w') : StoreAt w' X R L v b c d s := h.other (fun k hk => hb.block k (h.lt k hk))
theorem drew (h : StoreAt w X R L v b c d s) : StoreAt w.drew X R L v b c d s := h.other (fun _ _ => rfl)
theorem sav (h : StoreAt w X R L v b c d s) {S : Nat → Prop} (hb : Sav S w w') (hs : ∀ k, foot X R L v k → ¬ S k) : StoreAt w' X R L v b c d s := h.other (fun k hk => hb.block k (h.lt k hk) (hs k hk))
theorem n1 (h : StoreAt w X R L v b c d s) : 1 ≤ b ∧ b ≤ 63 ∧ 1 ≤ c ∧ c ≤ 64 ∧ d ≤ 64 := by have := h.right; unfold Right at this; omega
theorem prod (h : StoreAt w X R L v b c d s) : b * c ≤ 4032 := by
  have h1 := h.n1
  exact Nat.mul_le_mul h1.2.1 h1.2.2.2.1
/-- A register's cell. -/
theorem reg (h : StoreAt w X R L v b c d s) {m r : Nat} (hm : m < b) (hr : r < c) : w.cell? ⟨R, m * c + r, none⟩ = some (.int .u64 (s.g 0 m r)) := by
  have hlt : m * c + r < b * c := by
    have := Nat.mul_le_mul_right c (show m + 1 ≤ b by omega)
    rw [Nat.add_mul] at this; omega
  have := h.regs.cell hlt
  unfold regF at this
  rwa [show (m * c + r) / c = m by rw [Nat.mul_comm, Nat.mul_add_div (by omega), Nat.div_eq_of_lt hr, Nat.add_zero], show (m * c + r) % c = r by rw [Nat.mul_comm, Nat.mul_add_mod, Nat.mod_eq_of_lt hr]] at this
theorem setReg (h : StoreAt w X R L v b c d s) {m r x : Nat} (_ : m < b) (hr : r < c) (hi : Inv b c d ⟨putG s.g 0 m r x, s.n⟩) : StoreAt (w.setCell ⟨R, m * c + r, none⟩ (.int .u64 x)) X R L v b c d ⟨putG s.g 0 m r x, s.n⟩ := by
  refine ⟨(Below.heap_setCell _ _ _ _ h.xR).trans h.box, (h.regs.set (m * c + r) x).congr (fun j hj => ?_), (h.globs.other (Below.heap_setCell _ _ _ _ h.rL.symm)).congr (fun j _ => ?_), (h.made.other (fun k e => Below.heap_setCell _ _ _ _ (fun e' => h.vR (e.trans (by rw [e']))))).congr (fun j _ => ?_), h.xR, h.xL, h.rL, h.vX, h.vR, h.vL, hi, h.right, h.few⟩
  · unfold updN regF putG
    dsimp only
    have hc : 0 < c := by omega
    by_cases e : j = m * c + r
    · subst e
      rw [if_pos rfl, if_pos]
      refine ⟨rfl, ?_, ?_⟩
      · rw [show (m * c + r) / c = m by rw [Nat.mul_comm, Nat.mul_add_div hc, Nat.div_eq_of_lt hr, Nat.add_zero]]
      · rw [show (m * c + r) % c = r by rw [Nat.mul_comm, Nat.mul_add_mod, Nat.mod_eq_of_lt hr]]
    · rw [if_neg e, if_neg]
      rintro ⟨_, h1, h2⟩
      have h1' : j / c = m := by omega
      have h2' : j % c = r := by omega
      exact e (by rw [← h1', ← h2', Nat.mul_comm]; exact (Nat.div_add_mod j c).symm)
  · exact (putG_kind s.g (k' := 1) (k := 0) (i := m) (j := r) x (by decide)).symm
  · exact (putG_kind s.g (k' := 2 + ((j % 2 : Nat) : Int)) (k := 0) x (by omega)).symm
theorem glob (h : StoreAt w X R L v b c d s) {g : Nat} (hg : g < d) : w.cell? ⟨L, g, none⟩ = some (.int .u64 (s.g 1 g 0)) := h.globs.cell hg
theorem setGlob (h : StoreAt w X R L v b c d s) {r x : Nat} (hi : Inv b c d ⟨putG s.g 1 r 0 x, s.n⟩) : StoreAt (w.setCell ⟨L, r, none⟩ (.int .u64 x)) X R L v b c d ⟨putG s.g 1 r 0 x, s.n⟩ := by
  refine ⟨(Below.heap_setCell _ _ _ _ h.xL).trans h.box, (h.regs.other (Below.heap_setCell _ _ _ _ h.rL)).congr (fun j _ => ?_), (h.globs.set r x).congr (fun j hj => ?_), (h.made.other (fun k e => Below.heap_setCell _ _ _ _ (fun e' => h.vL (e.trans (by rw [e']))))).congr (fun j _ => ?_), h.xR, h.xL, h.rL, h.vX, h.vR, h.vL, hi, h.right, h.few⟩
  · exact (putG_kind s.g (k' := 0) (k := 1) (i := r) (j := 0) x (by decide)).symm
  · unfold updN globF putG
    dsimp only
    by_cases e : j = r
    · subst e; rw [if_pos rfl, if_pos ⟨rfl, rfl, rfl⟩]
    · rw [if_neg e, if_neg (fun h => e (by omega))]
  · exact (putG_kind s.g (k' := 2 + ((j % 2 : Nat) : Int)) (k := 1) x (by omega)).symm
/-- The words of a cell. -/
theorem cell2 (h : StoreAt w X R L v b c d s) {i : Nat} (hi : i < s.n) : ∃ M cap, v = .slice (some ⟨M, 0, none⟩) s.n cap ∧ w.cell? ⟨M, i * 2, none⟩ = some (.int .u64 (s.g 2 i 0)) ∧ w.cell? ⟨M, i * 2 + 1, none⟩ = some (.int .u64 (s.g 3 i 0)) ∧ (∀ j, w.frozen? ⟨M, j, none⟩ = false) := by
  obtain ⟨M, cap, hv, hr⟩ := h.made.row (by omega)
  have c0 := hr.cell (j := i * 2) (by omega)
  have c1 := hr.cell (j := i * 2 + 1) (by omega)
  unfold madeF at c0 c1
  rw [show i * 2 / 2 = i by omega, show i * 2 % 2 = 0 by omega] at c0
  rw [show (i * 2 + 1) / 2 = i by omega, show (i * 2 + 1) % 2 = 1 by omega] at c1
  exact ⟨M, cap, hv, c0, c1, hr.frozen⟩
theorem setCar {M cap : Nat} (h : StoreAt w X R L (.slice (some ⟨M, 0, none⟩) s.n cap) b c d s) {i x : Nat} (hi : Inv b c d ⟨putG s.g 2 i 0 x, s.n⟩) : StoreAt (w.setCell ⟨M, i * 2, none⟩ (.int .u64 x)) X R L (.slice (some ⟨M, 0, none⟩) s.n cap) b c d ⟨putG s.g 2 i 0 x, s.n⟩ := by
  refine ⟨(Below.heap_setCell _ _ _ _ (fun e => h.vX (by rw [e]; rfl))).trans h.box, (h.regs.other (Below.heap_setCell _ _ _ _ (fun e => h.vR (by rw [e]; rfl)))).congr (fun j _ => ?_), (h.globs.other (Below.heap_setCell _ _ _ _ (fun e => h.vL (by rw [e]; rfl)))).congr (fun j _ => ?_), (h.made.set (i * 2) x).congr (fun j _ => ?_), h.xR, h.xL, h.rL, h.vX, h.vR, h.vL, hi, h.right, h.few⟩
  · exact (putG_kind s.g (k' := 0) (k := 2) (i := i) (j := 0) x (by decide)).symm
  · exact (putG_kind s.g (k' := 1) (k := 2) (i := i) (j := 0) x (by decide)).symm
  · unfold updN madeF putG
    dsimp only
    by_cases e : j = i * 2
    · subst e; rw [if_pos rfl, if_pos (by omega)]
    · rw [if_neg e, if_neg (fun h => e (by omega))]
theorem setCdr {M cap : Nat} (h : StoreAt w X R L (.slice (some ⟨M, 0, none⟩) s.n cap) b c d s) {i x : Nat} (hi : Inv b c d ⟨putG s.g 3 i 0 x, s.n⟩) : StoreAt (w.setCell ⟨M, i * 2 + 1, none⟩ (.int .u64 x)) X R L (.slice (some ⟨M, 0, none⟩) s.n cap) b c d ⟨putG s.g 3 i 0 x, s.n⟩ := by
  refine ⟨(Below.heap_setCell _ _ _ _ (fun e => h.vX (by rw [e]; rfl))).trans h.box, (h.regs.other (Below.heap_setCell _ _ _ _ (fun e => h.vR (by rw [e]; rfl)))).congr (fun j _ => ?_), (h.globs.other (Below.heap_setCell _ _ _ _ (fun e => h.vL (by rw [e]; rfl)))).congr (fun j _ => ?_), (h.made.set (i * 2 + 1) x).congr (fun j _ => ?_), h.xR, h.xL, h.rL, h.vX, h.vR, h.vL, hi, h.right, h.few⟩
  · exact (putG_kind s.g (k' := 0) (k := 3) (i := i) (j := 0) x (by decide)).symm
  · exact (putG_kind s.g (k' := 1) (k := 3) (i := i) (j := 0) x (by decide)).symm
  · unfold updN madeF putG
    dsimp only
    by_cases e : j = i * 2 + 1
    · subst e; rw [if_pos rfl, if_pos (by omega)]
    · rw [if_neg e, if_neg (fun h => e (by omega))]
end StoreAt
end Go.Proofs.YtbpkdihonemogaaGreatDoor.Il
/- Package ideal's hasMut, own, at, Reg, Glob, Car, Cdr and Len, at every number, of a store and of a nil one. -/
namespace Go.Proofs.YtbpkdihonemogaaGreatDoor.Il
open Go Go.RowKit
set_option maxRecDepth 100000
attribute [local go_sem ↓] Go.wp_at_zero Go.wp_at_succ

section
variable {w : World} {X R L : Nat} {v : Value} {b c d : Nat} {s : St}
theorem hasMut_nil (m : Int) (w : World) : Calls Tryz.prog 42 #[.pointer none, .int .i64 m] w fun e w' => e = .returned (.bool false) ∧ w = w' := by
  go_enter Tryz.func42, Tryz.ntmps42
  go_wp2
  go_ret
  exact ⟨rfl, rfl⟩
theorem hasMut_yes (h : StoreAt w X R L v b c d s) (m : Nat) (hm : m < b) : Calls Tryz.prog 42 #[.pointer (some ⟨X, 0, none⟩), .int .i64 m] w fun e w' => e = .returned (.bool true) ∧ w = w' := by
  obtain ⟨_, c1, _⟩ := h.cells
  clear h
  have hd : decide ((m : Int) < (b : Int)) = true := decide_eq_true (by omega)
  go_enter Tryz.func42, Tryz.ntmps42
  go_wp2
  go_ret
  exact ⟨rfl, rfl⟩
theorem hasMut_no (h : StoreAt w X R L v b c d s) (m : Int) (hm : ¬ (0 ≤ m ∧ m < b)) : Calls Tryz.prog 42 #[.pointer (some ⟨X, 0, none⟩), .int .i64 m] w fun e w' => e = .returned (.bool false) ∧ w = w' := by
  obtain ⟨_, c1, _⟩ := h.cells
  clear h
  by_cases h0 : 0 ≤ m
  · have h1 : ¬ m < b := by omega
    have hd : decide (m < (b : Int)) = false := decide_eq_false h1
    clear hm
    go_enter Tryz.func42, Tryz.ntmps42
    go_wp2
    go_ret
    exact ⟨rfl, rfl⟩
  · clear hm
    have hd : decide (0 ≤ m) = false := decide_eq_false h0
    go_enter Tryz.func42, Tryz.ntmps42
    go_wp2
    go_ret
    exact ⟨rfl, rfl⟩
theorem own_c (h : StoreAt w X R L v b c d s) (m : Nat) (hm : m < b) : Calls Tryz.prog 44 #[.pointer (some ⟨X, 0, none⟩), .int .i64 m] w fun e w' => e = .returned (.slice (some ⟨R, m * c, none⟩) c (b * c - m * c)) ∧ Below w.heap.size w w' := by
  obtain ⟨_, _, c2, _, c4, _⟩ := h.cells
  have hn := h.n1
  have hp := h.prod
  have hle : m * c + c ≤ b * c := by
    have := Nat.mul_le_mul_right c (show m + 1 ≤ b by omega)
    rw [Nat.add_mul] at this; omega
  clear h
  have hc1 : 1 ≤ c := hn.2.2.1
  have hw1 : IntKind.i64.wrap ((m : Int) * (c : Int)) = ((m * c : Nat) : Int) := by rw [← Int.natCast_mul]; exact IntWalk.i64_in _ (by omega)
  have HB : Hid (Below w.heap.size w w.drew) := Lib.hid (Below.refl _ _).drew
  clear hn
  generalize m * c = q at *
  generalize b * c = nn at *
  have hw2 : IntKind.i64.wrap ((q : Int) + (c : Int)) = ((q + c : Nat) : Int) := by rw [← Int.natCast_add]; exact IntWalk.i64_in _ (by omega)
  have he : q + c - q = c := by omega
  go_enter Tryz.func44, Tryz.ntmps44
  go_wp2_with fail
  go_region
  all_goals go_wp2
  all_goals go_ret
  rw [he]
  exact ⟨rfl, HB.out⟩
/-- An element of a list of words; 0, if there is none of that number. -/
theorem atW_in (B off n cap : Nat) (f : Nat → Nat) (w : World) (i : Nat) (hi : i < n) (hc : w.cell? ⟨B, off + i, none⟩ = some (.int .u64 (f i))) : Calls Tryz.prog 56 #[.slice (some ⟨B, off, none⟩) n cap, .int .i64 i] w fun e w' => e = .returned (.int .u64 (f i)) ∧ w = w' := by
  generalize f i = x at *
  have hd : decide ((n : Int) ≤ (i : Int)) = false := decide_eq_false (by omega)
  go_enter Tryz.func56, Tryz.ntmps56
  go_wp2
  go_ret
  exact ⟨rfl, rfl⟩
theorem atW_out (a : Option Addr) (n cap : Nat) (w : World) (i : Int) (hi : ¬ (0 ≤ i ∧ i < n)) : Calls Tryz.prog 56 #[.slice a n cap, .int .i64 i] w fun e w' => e = .returned (.int .u64 0) ∧ w = w' := by
  by_cases h0 : i < 0
  · clear hi
    go_enter Tryz.func56, Tryz.ntmps56
    go_wp2
    go_ret
    exact ⟨rfl, rfl⟩
  · have h1 : (n : Int) ≤ i := by omega
    have hd : decide ((n : Int) ≤ i) = true := decide_eq_true h1
    clear hi
    go_enter Tryz.func56, Tryz.ntmps56
    go_wp2
    go_ret
    exact ⟨rfl, rfl⟩
theorem atC_in (B n cap : Nat) (x y : Nat) (w : World) (i : Nat) (hi : i < n) (hx : w.cell? ⟨B, i * 2, none⟩ = some (.int .u64 x)) (hy : w.cell? ⟨B, i * 2 + 1, none⟩ = some (.int .u64 y)) : Calls Tryz.prog 59 #[.slice (some ⟨B, 0, none⟩) n cap, .int .i64 i] w fun e w' => e = .returned (.agg #[.int .u64 x, .int .u64 y]) ∧ Below w.heap.size w w' := by
  have hd : decide ((n : Int) ≤ (i : Int)) = false := decide_eq_false (by omega)
  have hlt : B < w.heap.size := lt_of_cell hx
  have hne : B ≠ w.heap.size := by omega
  have HB := Lib.hid (below_new w (.cells #[.int .u64 x, .int .u64 y] 103))
  go_enter Tryz.func59, Tryz.ntmps59
  go_wp2
  refine bodyPost_ret (v := .agg #[.int .u64 x, .int .u64 y]) (by simp [results, Tryz.f59, go_sem]) rfl ?_
  exact ⟨rfl, HB.out⟩
theorem atC_out (a : Option Addr) (n cap : Nat) (w : World) (i : Int) (hi : ¬ (0 ≤ i ∧ i < n)) : Calls Tryz.prog 59 #[.slice a n cap, .int .i64 i] w fun e w' => e = .returned (.agg #[.int .u64 0, .int .u64 0]) ∧ Below w.heap.size w w' := by
  by_cases h0 : i < 0
  · clear hi
    go_enter Tryz.func59, Tryz.ntmps59
    go_wp2
    refine bodyPost_ret (v := .agg #[.int .u64 0, .int .u64 0]) (by simp [results, Tryz.f59, go_sem]) rfl ?_
    exact ⟨rfl, below_on (below_new _ _) _⟩
  · have h1 : (n : Int) ≤ i := by omega
    have hd : decide ((n : Int) ≤ i) = true := decide_eq_true h1
    clear hi
    go_enter Tryz.func59, Tryz.ntmps59
    go_wp2
    refine bodyPost_ret (v := .agg #[.int .u64 0, .int .u64 0]) (by simp [results, Tryz.f59, go_sem]) rfl ?_
    exact ⟨rfl, below_on (below_new _ _) _⟩
theorem Reg_nil (m r : Int) (w : World) : Calls Tryz.prog 25 #[.pointer none, .int .i64 m, .int .i64 r] w fun e w' => e = .returned (.int .u64 0) ∧ w = w' := by
  go_enter Tryz.func25, Tryz.ntmps25
  go_wp2_with fail
  refine (hasMut_nil m _).mono ?_
  rintro e W ⟨rfl, rfl⟩
  go_wp2_with fail
  go_ret
  exact ⟨rfl, rfl⟩
theorem Reg_c (h : StoreAt w X R L v b c d s) (m r : Int) : Calls Tryz.prog 25 #[.pointer (some ⟨X, 0, none⟩), .int .i64 m, .int .i64 r] w fun e w' => e = .returned (.int .u64 (s.g 0 m r)) ∧ Below w.heap.size w w' := by
  by_cases hm : 0 ≤ m ∧ m < b
  · obtain ⟨k, rfl⟩ : ∃ k : Nat, m = k := ⟨m.toNat, by omega⟩
    have hk : k < b := by omega
    have HM := Lib.hid (hasMut_yes h k hk)
    have HO := Lib.hid (own_c h k hk)
    have HA : Hid (∀ W, Below w.heap.size w W → Calls Tryz.prog 56 #[.slice (some ⟨R, k * c, none⟩) c (b * c - k * c), .int .i64 r] W fun e w' => e = .returned (.int .u64 (s.g 0 k r)) ∧ W = w') := Lib.hid (fun W hW => by
      by_cases hr : 0 ≤ r ∧ r < c
      · obtain ⟨j, rfl⟩ : ∃ j : Nat, r = j := ⟨r.toNat, by omega⟩
        exact atW_in R (k * c) c _ (fun j => s.g 0 k j) W j (by omega) ((h.below hW).reg hk (by omega))
      · rw [h.inv.z 0 k r (fun hd => by unfold dom at hd; omega)]
        exact atW_out _ c _ W r hr)
    clear h hm hk
    generalize s.g 0 k r = x at *
    generalize k * c = q at *
    generalize b * c - q = cc at *
    go_enter Tryz.func25, Tryz.ntmps25
    go_wp2_with fail
    refine HM.out.mono ?_
    rintro e W ⟨rfl, rfl⟩
    clear HM
    go_wp2_with fail
    refine HO.out.mono ?_
    rintro e W ⟨rfl, hW⟩
    have HB := Lib.hid hW
    clear HO hW
    go_wp2_with fail
    refine (HA.out W HB.out).mono ?_
    rintro e W2 ⟨rfl, rfl⟩
    clear HA
    go_wp2_with fail
    go_ret
    exact ⟨rfl, HB.out⟩
  · have HM := Lib.hid (hasMut_no h m hm)
    have hz : s.g 0 m r = 0 := h.inv.z 0 m r (fun hd => by unfold dom at hd; omega)
    rw [hz]
    clear h hm hz
    go_enter Tryz.func25, Tryz.ntmps25
    go_wp2_with fail
    refine HM.out.mono ?_
    rintro e W ⟨rfl, rfl⟩
    go_wp2_with fail
    go_ret
    exact ⟨rfl, Below.refl _ _⟩
theorem Glob_nil (g : Int) (w : World) : Calls Tryz.prog 27 #[.pointer none, .int .i64 g] w fun e w' => e = .returned (.int .u64 0) ∧ w = w' := by
  go_enter Tryz.func27, Tryz.ntmps27
  go_wp2
  go_ret
  exact ⟨rfl, rfl⟩
theorem Glob_c (h : StoreAt w X R L v b c d s) (g : Int) : Calls Tryz.prog 27 #[.pointer (some ⟨X, 0, none⟩), .int .i64 g] w fun e w' => e = .returned (.int .u64 (s.g 1 g 0)) ∧ Below w.heap.size w w' := by
  obtain ⟨_, _, _, _, _, c5, _, _⟩ := h.cells
  have HA : Hid (Calls Tryz.prog 56 #[.slice (some ⟨L, 0, none⟩) d d, .int .i64 g] w fun e w' => e = .returned (.int .u64 (s.g 1 g 0)) ∧ w = w') := Lib.hid (by
    by_cases hr : 0 ≤ g ∧ g < d
    · obtain ⟨j, rfl⟩ : ∃ j : Nat, g = j := ⟨g.toNat, by omega⟩
      exact atW_in L 0 d _ (fun j => s.g 1 j 0) w j (by omega) (by rw [Nat.zero_add]; exact h.glob (by omega))
    · rw [h.inv.z 1 g 0 (fun hd => by unfold dom at hd; omega)]
      exact atW_out _ d _ w g hr)
  clear h
  generalize s.g 1 g 0 = x at *
  go_enter Tryz.func27, Tryz.ntmps27
  go_wp2_with fail
  refine HA.out.mono ?_
  rintro e W ⟨rfl, rfl⟩
  go_wp2_with fail
  go_ret
  exact ⟨rfl, Below.refl _ _⟩
theorem made_at (h : StoreAt w X R L v b c d s) (i : Int) : Calls Tryz.prog 59 #[v, .int .i64 i] w fun e w' => e = .returned (.agg #[.int .u64 (s.g 2 i 0), .int .u64 (s.g 3 i 0)]) ∧ Below w.heap.size w w' := by
  by_cases hi : 0 ≤ i ∧ i < s.n
  · obtain ⟨j, rfl⟩ : ∃ j : Nat, i = j := ⟨i.toNat, by omega⟩
    obtain ⟨M, cap, rfl, h1, h2, _⟩ := h.cell2 (i := j) (by omega)
    exact atC_in M s.n cap _ _ w j (by omega) h1 h2
  · obtain ⟨a, cap, rfl⟩ := h.made.form
    rw [h.inv.z 2 i 0 (fun hd => by unfold dom at hd; omega), h.inv.z 3 i 0 (fun hd => by unfold dom at hd; omega)]
    exact atC_out a s.n cap w i hi
theorem field_pair (x y : Int) (W : World) : (Instr.field 103 (.agg #[.int .u64 x, .int .u64 y]) 0).run Tryz.prog W = .ok (.agg #[.int .u64 x, .int .u64 y]) W := by kernel_rfl
theorem field_car (x y : Int) (W : World) : (Instr.field 101 (.agg #[.int .u64 x, .int .u64 y]) 0).run Tryz.prog W = .ok (.int .u64 x) W := by kernel_rfl
theorem field_cdr (x y : Int) (W : World) : (Instr.field 101 (.agg #[.int .u64 x, .int .u64 y]) 1).run Tryz.prog W = .ok (.int .u64 y) W := by kernel_rfl
theorem Car_nil (i : Int) (w : World) : Calls Tryz.prog 29 #[.pointer none, .int .i64 i] w fun e w' => e = .returned (.int .u64 0) ∧ w = w' := by
  go_enter Tryz.func29, Tryz.ntmps29
  go_wp2
  go_ret
  exact ⟨rfl, rfl⟩
theorem Car_c (h : StoreAt w X R L v b c d s) (i : Int) : Calls Tryz.prog 29 #[.pointer (some ⟨X, 0, none⟩), .int .i64 i] w fun e w' => e = .returned (.int .u64 (s.g 2 i 0)) ∧ Below w.heap.size w w' := by
  obtain ⟨_, _, _, _, _, _, c6, _⟩ := h.cells
  have HA := Lib.hid (made_at h i)
  clear h
  generalize s.g 2 i 0 = x at *
  generalize s.g 3 i 0 = y at *
  have hf := field_pair (x : Int) (y : Int); have hf0 := field_car (x : Int) (y : Int); have hf1 := field_cdr (x : Int) (y : Int)
  go_enter Tryz.func29, Tryz.ntmps29
  go_wp2_with fail
  refine HA.out.mono ?_
  rintro e W ⟨rfl, hW⟩
  have HB := Lib.hid hW
  clear hW HA
  go_wp2_with fail
  go_ret
  exact ⟨rfl, HB.out⟩
theorem Cdr_nil (i : Int) (w : World) : Calls Tryz.prog 31 #[.pointer none, .int .i64 i] w fun e w' => e = .returned (.int .u64 0) ∧ w = w' := by
  go_enter Tryz.func31, Tryz.ntmps31
  go_wp2
  go_ret
  exact ⟨rfl, rfl⟩
theorem Cdr_c (h : StoreAt w X R L v b c d s) (i : Int) : Calls Tryz.prog 31 #[.pointer (some ⟨X, 0, none⟩), .int .i64 i] w fun e w' => e = .returned (.int .u64 (s.g 3 i 0)) ∧ Below w.heap.size w w' := by
  obtain ⟨_, _, _, _, _, _, c6, _⟩ := h.cells
  have HA := Lib.hid (made_at h i)
  clear h
  generalize s.g 2 i 0 = x at *
  generalize s.g 3 i 0 = y at *
  have hf := field_pair (x : Int) (y : Int); have hf0 := field_car (x : Int) (y : Int); have hf1 := field_cdr (x : Int) (y : Int)
  go_enter Tryz.func31, Tryz.ntmps31
  go_wp2_with fail
  refine HA.out.mono ?_
  rintro e W ⟨rfl, hW⟩
  have HB := Lib.hid hW
  clear hW HA
  go_wp2_with fail
  go_ret
  exact ⟨rfl, HB.out⟩
theorem Len_nil (w : World) : Calls Tryz.prog 21 #[.pointer none] w fun e w' => e = .returned (.int .i64 0) ∧ w = w' := by
  go_enter Tryz.func21, Tryz.ntmps21
  go_wp2
  go_ret
  exact ⟨rfl, rfl⟩
theorem Len_c (h : StoreAt w X R L v b c d s) : Calls Tryz.prog 21 #[.pointer (some ⟨X, 0, none⟩)] w fun e w' => e = .returned (.int .i64 s.n) ∧ w = w' := by
  obtain ⟨_, _, _, _, _, _, c6, _⟩ := h.cells
  obtain ⟨a, cap, rfl⟩ := h.made.form
  clear h
  generalize s.n = n at *
  go_enter Tryz.func21, Tryz.ntmps21
  go_wp2
  go_ret
  exact ⟨rfl, rfl⟩
end
end Go.Proofs.YtbpkdihonemogaaGreatDoor.Il
/- Package ideal's copied, of words and of cells: a slice of its own that holds the same. -/
namespace Go.Proofs.YtbpkdihonemogaaGreatDoor.Il
open Go Go.RowKit
set_option maxRecDepth 100000
attribute [local go_sem ↓] Go.wp_at_zero Go.wp_at_succ

theorem natMin_self (n : Nat) : Nat.min n n = n := Nat.min_self n
/-- copy, of elements of any size, into a row that is known whole. -/
theorem run_copy_size {P : Program} (w : World) (dT sT ty elem : TypeId) (sz g dLen dCap : Nat) (a : Addr) (sLen sCap : Nat) (cur : Array Value) (t : TypeId) (cs : List Value)
    (hu : P.underlying dT = some (.slice elem)) (hs : (P.info? elem).map (·.size) = some sz)
    (hg : w.heap[g]? = some (.cells cur t (0, 0))) (hn : cs.length = Nat.min sLen dLen * sz)
    (hsrc : ∀ j v, cs[j]? = some v → w.cell? (a.add j) = some v) (hfit : cs.length ≤ cur.size) (h1 : ∀ v ∈ cs, v.oneCell' = true) :
    (Builtin.copy_ #[dT, sT] ty #[.slice (some ⟨g, 0, none⟩) dLen dCap, .slice (some a) sLen sCap]).run P w =
      .ok (goInt (Nat.min sLen dLen)) (w.setRow g (cs ++ cur.toList.drop cs.length).toArray) := by
  have hl := run_loadCells_list (P := P) w a cs hsrc
  have hst := run_storeCells_at P g 0 t cs 0 cur w hg (by simpa using hfit) h1
  cases hq : P.info? elem with
  | none => simp [hq] at hs
  | some i =>
    have hi : i.size = sz := by simpa [hq] using hs
    simp [Builtin.copy_, run_underlying hu, Builtin.lenOf, Builtin.firstCells, sizeOf, typeInfo, hq, hi, ← hn, hl, hst]
theorem infoWord : (Tryz.prog.info? 28).map (fun i => (i.zero, i.size, i.bytes)) = some (some (.int .u64 0), 1, 8) := by kernel_rfl
theorem infoCell : (Tryz.prog.info? 103).map (fun i => (i.zero, i.size, i.bytes)) = some (some (.agg #[.int .u64 0, .int .u64 0]), 2, 16) := by kernel_rfl
theorem make_words (n : Nat) (hn : n ≤ 1000000) (w : World) : (Instr.makeSlice 24 (.int .i64 (n : Int)) (.int .i64 (n : Int))).run Tryz.prog w = .ok (.slice (some ⟨w.heap.size, 0, none⟩) n n) (w.alloc (.cells (madeCells #[.int .u64 0] n) 28)) :=
  run_make_row' 24 28 (.int .u64 0) 8 Tryz.underlying24 infoWord rfl .i64 .i64 n (by omega) (by omega) w
theorem make_cells (n : Nat) (hn : n ≤ 1000000) (w : World) : (Instr.makeSlice 76 (.int .i64 (n : Int)) (.int .i64 (n : Int))).run Tryz.prog w = .ok (.slice (some ⟨w.heap.size, 0, none⟩) n n) (w.alloc (.cells (madeCells #[.int .u64 0, .int .u64 0] (n * 2)) 103)) := by
  obtain ⟨i, hi, hzz⟩ := Option.map_eq_some_iff.1 infoCell
  simp only [Prod.mk.injEq] at hzz
  obtain ⟨hz, hs, hb⟩ := hzz
  have hr := run_make (P := Tryz.prog) w 76 103 i (.agg #[.int .u64 0, .int .u64 0]) Tryz.underlying76 hi hz .i64 .i64 n n (by omega) (Int.le_refl _) (by rw [hb]; omega) (by omega)
  simp only [Int.toNat_natCast, hs] at hr
  exact hr
theorem cells_of {w : World} {B : Nat} {t : TypeId} {n : Nat} {f : Nat → Nat} (h : RowN w B t n f) : ∀ j v, (wordsL n f)[j]? = some v → w.cell? ((⟨B, 0, none⟩ : Addr).add j) = some v := fun j v hv => by
  have hadd : (⟨B, 0, none⟩ : Addr).add j = ⟨B, j, none⟩ := by unfold Addr.add; split <;> simp_all
  by_cases hj : j < n
  · rw [wordsL_get _ _ _ hj] at hv
    rw [hadd, h.cell hj, hv]
  · rw [List.getElem?_eq_none (by rw [wordsL_len]; omega)] at hv; cases hv
theorem oneCell_wordsL (n : Nat) (f : Nat → Nat) : ∀ v ∈ wordsL n f, v.oneCell' = true := by
  intro v hv
  obtain ⟨j, _, rfl⟩ := List.mem_map.1 hv
  rfl
end Go.Proofs.YtbpkdihonemogaaGreatDoor.Il
/- Package ideal's New: a store of its own, all nil; or the error. -/
namespace Go.Proofs.YtbpkdihonemogaaGreatDoor.Il
open Go Go.RowKit
set_option maxRecDepth 100000
attribute [local go_sem ↓] Go.wp_at_zero Go.wp_at_succ

/-- A store with nothing in it. -/
def st0 : St := ⟨fun _ _ _ => 0, 0⟩
theorem StoreAt.zero {w : World} {X R L b c d : Nat} (hr : Right 2 b c d)
    (box : w.heap[X]? = some (.cells #[.int .i64 2, .int .i64 b, .int .i64 c, .int .i64 d, .slice (some ⟨R, 0, none⟩) (b * c) (b * c), .slice (some ⟨L, 0, none⟩) d d, .slice none 0 0] 78 (0, 0)))
    (regs : RowN w R 28 (b * c) (fun _ => 0)) (globs : RowN w L 28 d (fun _ => 0)) (xR : X ≠ R) (xL : X ≠ L) (rL : R ≠ L) : StoreAt w X R L (.slice none 0 0) b c d st0 :=
  ⟨box, regs, globs, World.ownsRow_nil _ _ _ _, xR, xL, rL, by simp [Value.ownBlock], by simp [Value.ownBlock], by simp [Value.ownBlock], Inv.new b c d, hr, Nat.zero_le _⟩
/-- What New answers. -/
def NewPost (w : World) (b c d : Nat) (e : Ending) (w' : World) : Prop :=
  ∃ X R L : Nat, e = .returned (.tuple #[.pointer (some ⟨X, 0, none⟩), .int .i64 0]) ∧ StoreAt w' X R L (.slice none 0 0) b c d st0 ∧ w.heap.size ≤ X ∧ w.heap.size ≤ R ∧ w.heap.size ≤ L ∧ Below w.heap.size w w'
theorem NewPost.drew {w : World} {b c d : Nat} {e : Ending} {w' : World} (h : NewPost w b c d e w') : NewPost w b c d e w'.drew := by
  obtain ⟨X, R, L, h1, h2, h3, h4, h5, h6⟩ := h
  exact ⟨X, R, L, h1, h2.drew, h3, h4, h5, h6.drew⟩
theorem New_no (b c d : Int) (hr : ¬ Right 2 b c d) (w : World) (hS : SpansAt w) :
    Calls Tryz.prog 17 #[.int .i64 b, .int .i64 c, .int .i64 d] w fun e w' => e = .returned (.tuple #[.pointer none, .int .i64 2]) ∧ Below w.heap.size w w' := by
  have HB := Lib.hid (below_new w (.cells #[.int .i64 2, .int .i64 b, .int .i64 c, .int .i64 d] 39))
  have HC := Lib.hid (check_wrong 2 b c d hr _ (hS.below HB.out))
  clear hr hS
  go_enter Tryz.func17, Tryz.ntmps17
  go_wp2_with fail
  refine HC.out.mono ?_
  rintro e W ⟨rfl, hW⟩
  have HB1 := Lib.hid (belowOn HB.out hW)
  clear HC HB hW
  go_wp2_with fail
  go_ret2
  exact ⟨rfl, HB1.out⟩
set_option maxHeartbeats 1600000 in
theorem New_yes (b c d : Nat) (hr : Right 2 b c d) (w : World) (hS : SpansAt w) :
    Calls Tryz.prog 17 #[.int .i64 b, .int .i64 c, .int .i64 d] w (NewPost w b c d) := by
  have HB := Lib.hid (below_new w (.cells #[.int .i64 2, .int .i64 b, .int .i64 c, .int .i64 d] 39))
  have HC := Lib.hid (check_right 2 b c d hr _ (hS.below HB.out))
  have HX := Lib.hid (BoxAt.new w 2 b c d 39)
  have HR := Lib.hid hr
  have hp : b * c ≤ 4032 := by
    have := hr.prod
    rw [← Int.natCast_mul] at this; omega
  have hd : d ≤ 64 := by unfold Right at hr; omega
  have hw1 : IntKind.i64.wrap ((b : Int) * (c : Int)) = ((b * c : Nat) : Int) := by rw [← Int.natCast_mul]; exact IntWalk.i64_in _ (by omega)
  have hmk1 := make_words (b * c) (by omega)
  rw [Int.natCast_mul] at hmk1
  have hmk2 := make_words d (by omega)
  clear hr hS
  have HE : Hid (∀ (W : World), Below w.heap.size w W → NewPost w b c d (.returned (.tuple #[.pointer (some ⟨W.heap.size + 1 + 1, 0, none⟩), .int .i64 0])) (((W.alloc (.cells (madeCells #[.int .u64 0] (b * c)) 28)).alloc (.cells (madeCells #[.int .u64 0] d) 28)).alloc (.cells #[.int .i64 2, .int .i64 b, .int .i64 c, .int .i64 d, .slice (some ⟨W.heap.size, 0, none⟩) (b * c) (b * c), .slice (some ⟨W.heap.size + 1, 0, none⟩) d d, .slice none 0 0] 78))) := Lib.hid (fun W hW => by
    have hs := hW.size
    refine ⟨W.heap.size + 1 + 1, W.heap.size, W.heap.size + 1, rfl, ?_, by omega, by omega, by omega, below_on (below_on (below_on hW _) _) _⟩
    refine StoreAt.zero HR.out ?_ ?_ ?_ (by omega) (by omega) (by omega)
    · have := newBlock ((W.alloc (.cells (madeCells #[.int .u64 0] (b * c)) 28)).alloc (.cells (madeCells #[.int .u64 0] d) 28)) (.cells #[.int .i64 2, .int .i64 b, .int .i64 c, .int .i64 d, .slice (some ⟨W.heap.size, 0, none⟩) (b * c) (b * c), .slice (some ⟨W.heap.size + 1, 0, none⟩) d d, .slice none 0 0] 78)
      simpa using this
    · exact ((RowN.made W (b * c) _).other (Below.heap_alloc _ _ _ (by simp))).other (Below.heap_alloc _ _ _ (by simp; omega))
    · have := RowN.made (W.alloc (.cells (madeCells #[.int .u64 0] (b * c)) 28)) d 28
      rw [show (W.alloc (.cells (madeCells #[.int .u64 0] (b * c)) 28)).heap.size = W.heap.size + 1 by simp] at this
      exact this.other (Below.heap_alloc _ _ _ (by simp)))
  have HE2 : Hid (∀ (W : World), Below w.heap.size w W → NewPost w b c d (.returned (.tuple #[.pointer (some ⟨W.heap.size + 1 + 1, 0, none⟩), .int .i64 0])) (((W.alloc (.cells (madeCells #[.int .u64 0] d) 28)).alloc (.cells (madeCells #[.int .u64 0] (b * c)) 28)).alloc (.cells #[.int .i64 2, .int .i64 b, .int .i64 c, .int .i64 d, .slice (some ⟨W.heap.size + 1, 0, none⟩) (b * c) (b * c), .slice (some ⟨W.heap.size, 0, none⟩) d d, .slice none 0 0] 78))) := Lib.hid (fun W hW => by
    have hs := hW.size
    refine ⟨W.heap.size + 1 + 1, W.heap.size + 1, W.heap.size, rfl, ?_, by omega, by omega, by omega, below_on (below_on (below_on hW _) _) _⟩
    refine StoreAt.zero HR.out ?_ ?_ ?_ (by omega) (by omega) (by omega)
    · have := newBlock ((W.alloc (.cells (madeCells #[.int .u64 0] d) 28)).alloc (.cells (madeCells #[.int .u64 0] (b * c)) 28)) (.cells #[.int .i64 2, .int .i64 b, .int .i64 c, .int .i64 d, .slice (some ⟨W.heap.size + 1, 0, none⟩) (b * c) (b * c), .slice (some ⟨W.heap.size, 0, none⟩) d d, .slice none 0 0] 78)
      simpa using this
    · have := RowN.made (W.alloc (.cells (madeCells #[.int .u64 0] d) 28)) (b * c) 28
      rw [show (W.alloc (.cells (madeCells #[.int .u64 0] d) 28)).heap.size = W.heap.size + 1 by simp] at this
      exact this.other (Below.heap_alloc _ _ _ (by simp))
    · exact ((RowN.made W d _).other (Below.heap_alloc _ _ _ (by simp))).other (Below.heap_alloc _ _ _ (by simp; omega)))
  go_enter Tryz.func17, Tryz.ntmps17
  go_wp2_with fail
  refine HC.out.mono ?_
  rintro e W ⟨rfl, hW⟩
  have HB1 := Lib.hid (belowOn HB.out hW)
  obtain ⟨x0, x1, x2, x3⟩ := HX.out.below hW
  have hlt : w.heap.size < W.heap.size := lt_of_cell x0
  have hne : w.heap.size ≠ W.heap.size := by omega
  have hne1 : w.heap.size ≠ W.heap.size + 1 := by omega
  clear HC HB hW HX HR
  go_wp2_with fail
  go_region
  all_goals go_wp2
  all_goals go_ret2
  all_goals first | exact (HE.out W HB1.out).drew | exact (HE2.out W HB1.out).drew
end Go.Proofs.YtbpkdihonemogaaGreatDoor.Il
/- Package ideal's Copy: a store of its own that is as this one. -/
namespace Go.Proofs.YtbpkdihonemogaaGreatDoor.Il
open Go Go.RowKit
set_option maxRecDepth 100000
attribute [local go_sem ↓] Go.wp_at_zero Go.wp_at_succ

/-- What Copy answers. -/
def CopyPost (w : World) (b c d : Nat) (s : St) (e : Ending) (w' : World) : Prop :=
  ∃ (X R L : Nat) (v : Value), e = .returned (.pointer (some ⟨X, 0, none⟩)) ∧ StoreAt w' X R L v b c d s ∧ (∀ k, foot X R L v k → w.heap.size ≤ k) ∧ Below w.heap.size w w'
end Go.Proofs.YtbpkdihonemogaaGreatDoor.Il
/- Package ideal's cellOf, wordOf, truth, take and replace. -/
namespace Go.Proofs.YtbpkdihonemogaaGreatDoor.Il
open Go Go.RowKit
set_option maxRecDepth 100000
attribute [local go_sem ↓] Go.wp_at_zero Go.wp_at_succ

section
variable {w : World} {X R L : Nat} {v : Value} {b c d : Nat} {s : St}
theorem truth_c (r : Bool) (w : World) : Calls Tryz.prog 48 #[.bool r] w fun e w' => e = .returned (.int .i64 (if r then 2 else 3)) ∧ w = w' := by
  cases r
  all_goals
    go_enter Tryz.func48, Tryz.ntmps48
    go_wp2
    go_ret
    exact ⟨rfl, rfl⟩
theorem wordOf_c (n : Nat) (h : n < 9223372036854775808) (w : World) : Calls Tryz.prog 76 #[.int .i64 n] w fun e w' => e = .returned (.int .u64 ((2 * n + 1 : Nat) : Int)) ∧ w = w' := by
  go_enter Tryz.func76, Tryz.ntmps76
  go_wp2
  go_ret
  refine ⟨retInt ?_, rfl⟩
  exact or_one n h
theorem cellOf_even (X : Nat) (w : World) (x : Nat) (hx : x < 18446744073709551616) (hp : x % 2 = 0) : Calls Tryz.prog 77 #[.pointer (some ⟨X, 0, none⟩), .int .u64 x] w fun e w' => e = .returned (.pointer none) ∧ w = w' := by
  have HA := Lib.hid (isAtom_even x hx hp)
  clear hp
  go_enter Tryz.func77, Tryz.ntmps77
  go_wp2_with fail
  refine (HA.out _).mono ?_
  rintro e W ⟨rfl, rfl⟩
  clear HA
  go_wp2_with fail
  go_ret
  exact ⟨rfl, rfl⟩
theorem cellOf_odd {M cap : Nat} (h : StoreAt w X R L (.slice (some ⟨M, 0, none⟩) s.n cap) b c d s) (x : Nat) (hx : x < 18446744073709551616) (hp : x % 2 = 1) (hn : x / 2 < s.n) : Calls Tryz.prog 77 #[.pointer (some ⟨X, 0, none⟩), .int .u64 x] w fun e w' => e = .returned (.pointer (some ⟨M, x / 2 * 2, none⟩)) ∧ w = w' := by
  have HA := Lib.hid (isAtom_odd x hx hp)
  obtain ⟨_, _, _, _, _, _, c6, _⟩ := h.cells
  have hf := h.few
  clear h hp
  generalize s.n = n at *
  have hx2 : x / 2 < 9223372036854775808 := by omega
  go_enter Tryz.func77, Tryz.ntmps77
  go_wp2_with fail
  refine (HA.out _).mono ?_
  rintro e W ⟨rfl, rfl⟩
  clear HA
  go_wp2_with fail
  go_ret
  exact ⟨rfl, rfl⟩
/-- What a part of Do answers that makes no cell. -/
def ActPost (w : World) (X R L : Nat) (v : Value) (b c d : Nat) (s : St) (r : Int) (e : Ending) (w' : World) : Prop := e = .returned (.int .i64 r) ∧ StoreAt w' X R L v b c d s ∧ Sav (foot X R L v) w w'
theorem take_atom (h : StoreAt w X R L v b c d s) (m y : Nat) (k x z : Int) (hm : m < b) (hy : y < c) (he : s.g 0 m y % 2 = 0) (cc : Nat) :
    Calls Tryz.prog 46 #[.pointer (some ⟨X, 0, none⟩), .slice (some ⟨R, m * c, none⟩) c cc, .agg #[.int .i64 k, .int .i64 x, .int .i64 y, .int .i64 z]] w (ActPost w X R L v b c d s 4) := by
  have HB := Lib.hid (below_new w (.cells #[.int .i64 k, .int .i64 x, .int .i64 y, .int .i64 z] 26))
  have HH := Lib.hid (h.below HB.out)
  have HC := Lib.hid (cellOf_even X (w.alloc (.cells #[.int .i64 k, .int .i64 x, .int .i64 y, .int .i64 z] 26)) (s.g 0 m y) (h.inv.u _ _ _) he)
  have hreg := h.reg hm hy
  have hR := h.regs.lt
  have hR2 : R ≠ w.heap.size := by omega
  clear h he hm
  generalize m * c = q at *
  generalize s.g 0 m y = u at *
  go_enter Tryz.func46, Tryz.ntmps46
  go_wp2_with fail
  refine HC.out.mono ?_
  rintro e W ⟨rfl, rfl⟩
  clear HC
  go_wp2_with fail
  go_ret
  exact ⟨rfl, HH.out, .of HB.out⟩
theorem take_car {M cap : Nat} (h : StoreAt w X R L (.slice (some ⟨M, 0, none⟩) s.n cap) b c d s) (m x y : Nat) (z : Int) (hm : m < b) (hx : x < c) (hy : y < c) (he : s.g 0 m y % 2 = 1) (cc : Nat) :
    Calls Tryz.prog 46 #[.pointer (some ⟨X, 0, none⟩), .slice (some ⟨R, m * c, none⟩) c cc, .agg #[.int .i64 4, .int .i64 x, .int .i64 y, .int .i64 z]] w (ActPost w X R L (.slice (some ⟨M, 0, none⟩) s.n cap) b c d ⟨putG s.g 0 m x (s.g 2 ((s.g 0 m y / 2 : Nat) : Int) 0), s.n⟩ 1) := by
  have HB := Lib.hid (below_new w (.cells #[.int .i64 4, .int .i64 x, .int .i64 y, .int .i64 z] 26))
  have HH := Lib.hid (h.below HB.out)
  have hn : s.g 0 m y / 2 < s.n := h.inv.odd _ _ _ he
  have HC := Lib.hid (cellOf_odd HH.out (s.g 0 m y) (h.inv.u _ _ _) he hn)
  obtain ⟨M', cap', e, hcar, hcdr, _⟩ := h.cell2 hn
  cases e
  have hregx := h.reg hm hx
  have hfz := h.regs.frozen (m * c + x)
  have hreg := h.reg hm hy
  have hR := h.regs.lt
  have hR2 : R ≠ w.heap.size := by omega
  have hM := lt_of_cell hcar
  have hM2 : M ≠ w.heap.size := by omega
  have HS := Lib.hid (h.setReg (m := m) (r := x) (x := s.g 2 ((s.g 0 m y / 2 : Nat) : Int) 0) hm hx (h.inv.put (.inl ⟨rfl, by omega, by omega, by omega, by omega⟩) (h.inv.u _ _ _) (h.inv.odd _ _ _)))
  clear h he hm
  generalize m * c = q at *
  generalize s.g 2 ((s.g 0 m y / 2 : Nat) : Int) 0 = u2 at *
  generalize s.g 3 ((s.g 0 m y / 2 : Nat) : Int) 0 = u3 at *
  generalize s.g 0 m y = u at *
  generalize s.g 0 m x = ux at *
  go_enter Tryz.func46, Tryz.ntmps46
  go_wp2_with fail
  refine HC.out.mono ?_
  rintro e W ⟨rfl, rfl⟩
  clear HC
  go_wp2_with fail
  go_region
  all_goals go_wp2_with fail
  all_goals go_ret
  all_goals exact ⟨rfl, (HS.out.below (below_new _ _)).drew, (((Sav.refl (S := foot X R L (.slice (some ⟨M, 0, none⟩) s.n cap)) (w := w)).set (p := ⟨R, q + x, none⟩) (.inl (.inr (.inl rfl))) _).alloc _).drew⟩
theorem take_cdr {M cap : Nat} (h : StoreAt w X R L (.slice (some ⟨M, 0, none⟩) s.n cap) b c d s) (m x y : Nat) (z : Int) (hm : m < b) (hx : x < c) (hy : y < c) (he : s.g 0 m y % 2 = 1) (cc : Nat) :
    Calls Tryz.prog 46 #[.pointer (some ⟨X, 0, none⟩), .slice (some ⟨R, m * c, none⟩) c cc, .agg #[.int .i64 5, .int .i64 x, .int .i64 y, .int .i64 z]] w (ActPost w X R L (.slice (some ⟨M, 0, none⟩) s.n cap) b c d ⟨putG s.g 0 m x (s.g 3 ((s.g 0 m y / 2 : Nat) : Int) 0), s.n⟩ 1) := by
  have HB := Lib.hid (below_new w (.cells #[.int .i64 5, .int .i64 x, .int .i64 y, .int .i64 z] 26))
  have HH := Lib.hid (h.below HB.out)
  have hn : s.g 0 m y / 2 < s.n := h.inv.odd _ _ _ he
  have HC := Lib.hid (cellOf_odd HH.out (s.g 0 m y) (h.inv.u _ _ _) he hn)
  obtain ⟨M', cap', e, hcar, hcdr, _⟩ := h.cell2 hn
  cases e
  have hregx := h.reg hm hx
  have hfz := h.regs.frozen (m * c + x)
  have hreg := h.reg hm hy
  have hR := h.regs.lt
  have hR2 : R ≠ w.heap.size := by omega
  have hM := lt_of_cell hcar
  have hM2 : M ≠ w.heap.size := by omega
  have HS := Lib.hid (h.setReg (m := m) (r := x) (x := s.g 3 ((s.g 0 m y / 2 : Nat) : Int) 0) hm hx (h.inv.put (.inl ⟨rfl, by omega, by omega, by omega, by omega⟩) (h.inv.u _ _ _) (h.inv.odd _ _ _)))
  clear h he hm
  generalize m * c = q at *
  generalize s.g 2 ((s.g 0 m y / 2 : Nat) : Int) 0 = u2 at *
  generalize s.g 3 ((s.g 0 m y / 2 : Nat) : Int) 0 = u3 at *
  generalize s.g 0 m y = u at *
  generalize s.g 0 m x = ux at *
  go_enter Tryz.func46, Tryz.ntmps46
  go_wp2_with fail
  refine HC.out.mono ?_
  rintro e W ⟨rfl, rfl⟩
  clear HC
  go_wp2_with fail
  go_region
  all_goals go_wp2_with fail
  all_goals go_ret
  all_goals exact ⟨rfl, (HS.out.below (below_new _ _)).drew, (((Sav.refl (S := foot X R L (.slice (some ⟨M, 0, none⟩) s.n cap)) (w := w)).set (p := ⟨R, q + x, none⟩) (.inl (.inr (.inl rfl))) _).alloc _).drew⟩
theorem replace_atom (h : StoreAt w X R L v b c d s) (m x : Nat) (k y z : Int) (hm : m < b) (hx : x < c) (he : s.g 0 m x % 2 = 0) (cc : Nat) :
    Calls Tryz.prog 47 #[.pointer (some ⟨X, 0, none⟩), .slice (some ⟨R, m * c, none⟩) c cc, .agg #[.int .i64 k, .int .i64 x, .int .i64 y, .int .i64 z]] w (ActPost w X R L v b c d s 4) := by
  have HB := Lib.hid (below_new w (.cells #[.int .i64 k, .int .i64 x, .int .i64 y, .int .i64 z] 26))
  have HH := Lib.hid (h.below HB.out)
  have HC := Lib.hid (cellOf_even X (w.alloc (.cells #[.int .i64 k, .int .i64 x, .int .i64 y, .int .i64 z] 26)) (s.g 0 m x) (h.inv.u _ _ _) he)
  have hreg := h.reg hm hx
  have hR := h.regs.lt
  have hR2 : R ≠ w.heap.size := by omega
  clear h he hm
  generalize m * c = q at *
  generalize s.g 0 m x = u at *
  go_enter Tryz.func47, Tryz.ntmps47
  go_wp2_with fail
  refine HC.out.mono ?_
  rintro e W ⟨rfl, rfl⟩
  clear HC
  go_wp2_with fail
  go_ret
  exact ⟨rfl, HH.out, .of HB.out⟩
theorem replace_car {M cap : Nat} (h : StoreAt w X R L (.slice (some ⟨M, 0, none⟩) s.n cap) b c d s) (m x y : Nat) (z : Int) (hm : m < b) (hx : x < c) (hy : y < c) (he : s.g 0 m x % 2 = 1) (cc : Nat) :
    Calls Tryz.prog 47 #[.pointer (some ⟨X, 0, none⟩), .slice (some ⟨R, m * c, none⟩) c cc, .agg #[.int .i64 6, .int .i64 x, .int .i64 y, .int .i64 z]] w (ActPost w X R L (.slice (some ⟨M, 0, none⟩) s.n cap) b c d ⟨putG s.g 2 ((s.g 0 m x / 2 : Nat) : Int) 0 (s.g 0 m y), s.n⟩ 1) := by
  have HB := Lib.hid (below_new w (.cells #[.int .i64 6, .int .i64 x, .int .i64 y, .int .i64 z] 26))
  have HH := Lib.hid (h.below HB.out)
  have hn : s.g 0 m x / 2 < s.n := h.inv.odd _ _ _ he
  have HC := Lib.hid (cellOf_odd HH.out (s.g 0 m x) (h.inv.u _ _ _) he hn)
  obtain ⟨M', cap', e, hcar, hcdr, hfr⟩ := h.cell2 hn
  cases e
  have hfz := hfr (s.g 0 m x / 2 * 2)
  clear hfr
  have hregx := h.reg hm hx
  have hreg := h.reg hm hy
  have hR := h.regs.lt
  have hR2 : R ≠ w.heap.size := by omega
  have hM := lt_of_cell hcar
  have hM2 : M ≠ w.heap.size := by omega
  have HS := Lib.hid (h.setCar (i := s.g 0 m x / 2) (x := s.g 0 m y) (h.inv.put (.inr (.inr ⟨by omega, by omega, by omega, rfl⟩)) (h.inv.u _ _ _) (h.inv.odd _ _ _)))
  clear h he hm
  generalize m * c = q at *
  generalize s.g 2 ((s.g 0 m x / 2 : Nat) : Int) 0 = u2 at *
  generalize s.g 3 ((s.g 0 m x / 2 : Nat) : Int) 0 = u3 at *
  generalize s.g 0 m x = ux at *
  generalize s.g 0 m y = u at *
  go_enter Tryz.func47, Tryz.ntmps47
  go_wp2_with fail
  refine HC.out.mono ?_
  rintro e W ⟨rfl, rfl⟩
  clear HC
  go_wp2_with fail
  all_goals go_ret
  all_goals exact ⟨rfl, HS.out.below (below_new _ _), ((Sav.refl (S := foot X R L (.slice (some ⟨M, 0, none⟩) s.n cap)) (w := w)).set (p := ⟨M, ux / 2 * 2, none⟩) (.inl (.inr (.inr (.inr rfl)))) _).alloc _⟩
theorem replace_cdr {M cap : Nat} (h : StoreAt w X R L (.slice (some ⟨M, 0, none⟩) s.n cap) b c d s) (m x y : Nat) (z : Int) (hm : m < b) (hx : x < c) (hy : y < c) (he : s.g 0 m x % 2 = 1) (cc : Nat) :
    Calls Tryz.prog 47 #[.pointer (some ⟨X, 0, none⟩), .slice (some ⟨R, m * c, none⟩) c cc, .agg #[.int .i64 7, .int .i64 x, .int .i64 y, .int .i64 z]] w (ActPost w X R L (.slice (some ⟨M, 0, none⟩) s.n cap) b c d ⟨putG s.g 3 ((s.g 0 m x / 2 : Nat) : Int) 0 (s.g 0 m y), s.n⟩ 1) := by
  have HB := Lib.hid (below_new w (.cells #[.int .i64 7, .int .i64 x, .int .i64 y, .int .i64 z] 26))
  have HH := Lib.hid (h.below HB.out)
  have hn : s.g 0 m x / 2 < s.n := h.inv.odd _ _ _ he
  have HC := Lib.hid (cellOf_odd HH.out (s.g 0 m x) (h.inv.u _ _ _) he hn)
  obtain ⟨M', cap', e, hcar, hcdr, hfr⟩ := h.cell2 hn
  cases e
  have hfz := hfr (s.g 0 m x / 2 * 2 + 1)
  clear hfr
  have hregx := h.reg hm hx
  have hreg := h.reg hm hy
  have hR := h.regs.lt
  have hR2 : R ≠ w.heap.size := by omega
  have hM := lt_of_cell hcar
  have hM2 : M ≠ w.heap.size := by omega
  have HS := Lib.hid (h.setCdr (i := s.g 0 m x / 2) (x := s.g 0 m y) (h.inv.put (.inr (.inr ⟨by omega, by omega, by omega, rfl⟩)) (h.inv.u _ _ _) (h.inv.odd _ _ _)))
  clear h he hm
  generalize m * c = q at *
  generalize s.g 2 ((s.g 0 m x / 2 : Nat) : Int) 0 = u2 at *
  generalize s.g 3 ((s.g 0 m x / 2 : Nat) : Int) 0 = u3 at *
  generalize s.g 0 m x = ux at *
  generalize s.g 0 m y = u at *
  go_enter Tryz.func47, Tryz.ntmps47
  go_wp2_with fail
  refine HC.out.mono ?_
  rintro e W ⟨rfl, rfl⟩
  clear HC
  go_wp2_with fail
  all_goals go_ret
  all_goals exact ⟨rfl, HS.out.below (below_new _ _), ((Sav.refl (S := foot X R L (.slice (some ⟨M, 0, none⟩) s.n cap)) (w := w)).set (p := ⟨M, ux / 2 * 2 + 1, none⟩) (.inl (.inr (.inr (.inr rfl)))) _).alloc _⟩
end
end Go.Proofs.YtbpkdihonemogaaGreatDoor.Il
