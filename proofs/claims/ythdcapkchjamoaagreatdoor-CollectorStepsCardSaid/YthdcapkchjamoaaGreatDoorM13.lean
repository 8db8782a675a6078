/- Laid together: RootsPure, ColWk, ColAwake, ColFar. -/
import Derived.Test.YthdcapkchjamoaaGreatDoorM6
import Derived.Test.YthdcapkchjamoaaGreatDoorColF
import Derived.Test.YthdcapkchjamoaaGreatDoorPlaceRef
import Derived.Test.YthdcapkchjamoaaGreatDoorTwo
import Derived.Test.YthdcapkchjamoaaGreatDoorColDo
import Derived.Test.YthdcapkchjamoaaGreatDoorColRef
import Derived.Test.YthdcapkchjamoaaGreatDoorPlaceFirst
import Derived.Test.YthdcapkchjamoaaGreatDoorHandNew
import Derived.Deep.RegionHeld3
/- The roots gone through, without memory. -/
namespace Go.Proofs.YthdcapkchjamoaaGreatDoor
open Go Go.RowKit
set_option maxRecDepth 100000

theorem rootsN_pos {C : Cf} (hC : CfOK C) : 1 ≤ rootsN C ∧ rootsN C ≤ 5000 := by
  have hp := hC.right.prod
  have hr := hC.right
  unfold Right at hr
  unfold rootsN
  omega
/-- Where a root lies: no colour. -/
theorem sp_root {C : Cf} (hC : CfOK C) {j : Int} (h0 : 0 ≤ j) (h1 : j < rootsN C) : 0 ≤ rootP C.a C.b C.c C.d j ∧ rootP C.a C.b C.c C.d j < C.n ∧ (spotF C.b C.c C.d ((rootP C.a C.b C.c C.d j).toNat : Int)).1 < 4 ∧ (spotF C.b C.c C.d ((rootP C.a C.b C.c C.d j).toNat : Int)).1 ≠ 1 ∧ (rootP C.a C.b C.c C.d j).toNat ≠ 2 := by
  have hr := hC.right
  have hp := hr.prod
  have hs := hC.size
  have hq := hr
  unfold Right at hq
  unfold rootsN at h1
  have e : rootP C.a C.b C.c C.d j = if j = 0 then 0 else 4 + C.b + j := by unfold rootP; rw [if_pos ⟨⟨h0, h1⟩, hr⟩]
  by_cases hj : j = 0
  · rw [e, if_pos hj]
    refine ⟨by omega, by omega, ?_, ?_, by decide⟩
    · rw [show ((Int.toNat 0 : Nat) : Int) = ((0 : Nat) : Int) from rfl, sp_once _ _ _ (by omega)]; simp
    · rw [show ((Int.toNat 0 : Nat) : Int) = ((0 : Nat) : Int) from rfl, sp_once _ _ _ (by omega)]; simp
  · rw [e, if_neg hj]
    have ht : ((4 + C.b + j).toNat : Int) = 4 + C.b + j := by omega
    refine ⟨by omega, by omega, ?_, ?_, by omega⟩
    · rw [ht]
      by_cases hg : j ≤ C.d
      · rw [spot_glob (by omega) (by omega) (by omega)]; simp
      · unfold spotF; rw [if_neg (by omega), if_neg (by omega), if_neg (by omega), if_pos (by omega)]; simp
    · rw [ht]
      by_cases hg : j ≤ C.d
      · rw [spot_glob (by omega) (by omega) (by omega)]; simp
      · unfold spotF; rw [if_neg (by omega), if_neg (by omega), if_neg (by omega), if_pos (by omega)]; simp
/-- The colour's place of a word: a cell's of the map, or none. -/
def colP (C : Cf) (w : Int) : Int := fieldP C.a C.b C.c C.d w.toNat 2
theorem colP_spot {C : Cf} (hC : CfOK C) {w : Int} (h : 0 ≤ colP C w) : colP C w < C.n ∧ (spotF C.b C.c C.d ((colP C w).toNat : Int)).1 = 6 ∧ isC w.toNat ∧ ((w.toNat / 2 : Nat) : Int) < C.a ∧ colP C w = partP C.a C.b C.c C.d 2 ((w.toNat / 2 : Nat) : Int) := by
  unfold colP fieldP at *
  by_cases hc : isC w.toNat ∧ (0 : Int) ≤ 2 ∧ (2 : Int) ≤ 2
  · rw [if_pos hc] at h ⊢
    by_cases hi : ((w.toNat / 2 : Nat) : Int) < C.a
    · obtain ⟨e1, e2, e3⟩ := sp_part hC (k := 2) (i := ((w.toNat / 2 : Nat) : Int)) (by omega) hi (by omega) (by omega)
      exact ⟨e3, by rw [e1]; rfl, hc.1, hi, rfl⟩
    · have e : partP C.a C.b C.c C.d 2 ((w.toNat / 2 : Nat) : Int) = -1 := by unfold partP; rw [if_neg (fun h => hi h.1.2)]
      rw [e] at h; omega
  · rw [if_neg hc] at h; omega
/-- A cas of a colour from White to Grey. -/
theorem cas_col {C : Cf} (f : Nat → Int) (w : Int) : wordsQ C.n f 3 (colP C w) 0 1 = if okD C.n 3 (colP C w) ∧ f (colP C w).toNat = 0 then upd f (colP C w).toNat 1 else f := by
  unfold wordsQ
  by_cases ho : okD C.n 3 (colP C w)
  · rw [if_pos ho]
    show (if f _ = 0 then upd f _ 1 else f) = _
    by_cases h0 : f (colP C w).toNat = 0
    · rw [if_pos h0, if_pos ⟨ho, h0⟩]
    · rw [if_neg h0, if_neg (fun h => h0 h.2)]
  · rw [if_neg ho, if_neg (fun h => ho h.1)]
/-- A root's word at first. -/
def rootW (C : Cf) (f : Nat → Int) (i : Int) : Int := f (rootP C.a C.b C.c C.d i).toNat
/-- Nothing but root's cells' colours may have turned, from White to Grey. -/
def RtNear (C : Cf) (f0 f : Nat → Int) : Prop := ∀ k : Nat, f k = f0 k ∨ (f0 k = 0 ∧ f k = 1 ∧ ∃ i, 0 ≤ i ∧ i < rootsN C ∧ (k : Int) = colP C (rootW C f0 i))
theorem RtNear.root {C : Cf} (hC : CfOK C) {f0 f : Nat → Int} (h : RtNear C f0 f) {j : Int} (h0 : 0 ≤ j) (h1 : j < rootsN C) : rootW C f j = rootW C f0 j := by
  rcases h (rootP C.a C.b C.c C.d j).toNat with e | ⟨_, _, i, _, _, e⟩
  · exact e
  · have e1 := (sp_root hC h0 h1).2.2.1
    have e2 := (colP_spot hC (w := rootW C f0 i) (by omega)).2.1
    have e3 : ((colP C (rootW C f0 i)).toNat : Int) = ((rootP C.a C.b C.c C.d j).toNat : Int) := by omega
    rw [e3] at e2
    omega
/-- How many steps the first k roots take. -/
def stepsN (C : Cf) (f0 : Nat → Int) : Nat → Nat
  | 0 => 0
  | k + 1 => stepsN C f0 k + (if isC (rootW C f0 k).toNat then 2 else 1)
theorem stepsN_le (C : Cf) (f0 : Nat → Int) : ∀ k, stepsN C f0 k ≤ 2 * k ∧ k ≤ stepsN C f0 k
  | 0 => ⟨Nat.le_refl _, Nat.le_refl _⟩
  | k + 1 => by
    have := stepsN_le C f0 k
    show stepsN C f0 k + _ ≤ _ ∧ _ ≤ stepsN C f0 k + _
    by_cases h : isC (rootW C f0 k).toNat
    · rw [if_pos h]; omega
    · rw [if_neg h]; omega
theorem stepsN_mono (C : Cf) (f0 : Nat → Int) {j k : Nat} (h : j ≤ k) : stepsN C f0 j + (k - j) ≤ stepsN C f0 k := by
  induction k with
  | zero => have : j = 0 := by omega
            subst this; simp
  | succ k ih =>
    by_cases e : j = k + 1
    · subst e; simp
    · have := ih (by omega)
      have h2 : stepsN C f0 k + 1 ≤ stepsN C f0 (k + 1) := by
        show _ ≤ stepsN C f0 k + _
        split <;> omega
      omega
/-- How far going through the roots is, behind n steps. -/
structure RtSt (C : Cf) (f0 f : Nat → Int) (n : Nat) (x : Co) : Prop where
  near : RtNear C f0 f
  line : (x.l = 1 ∧ 0 ≤ x.j ∧ x.j < rootsN C ∧ n = stepsN C f0 x.j.toNat) ∨ (x.l = 2 ∧ 0 ≤ x.j ∧ x.j < rootsN C ∧ n = stepsN C f0 x.j.toNat + 1 ∧ x.p = rootW C f0 x.j ∧ isC x.p.toNat) ∨ (x.l = 3 ∧ x.j = rootsN C ∧ n = stepsN C f0 x.j.toNat)
  done : ∀ i, 0 ≤ i → i < x.j → 0 ≤ colP C (rootW C f0 i) → f (colP C (rootW C f0 i)).toNat ≠ 0
theorem RtSt.first (C : Cf) (hC : CfOK C) (f0 : Nat → Int) (x : Co) (hl : x.l = 1) (hj : x.j = 0) : RtSt C f0 f0 0 x :=
  ⟨fun _ => .inl rfl, .inl ⟨hl, by omega, by have := rootsN_pos hC; omega, by rw [hj]; rfl⟩, fun i h0 h1 => by omega⟩
theorem RtSt.go {C : Cf} (hC : CfOK C) {s : Dy} {f0 : Nat → Int} {n : Nat} {x : Co} (h : RtSt C f0 s.f n x) (hl : x.l = 1 ∨ x.l = 2) :
    ∃ s' x', rootS C s x = (s', x', true) ∧ RtSt C f0 s'.f (n + 1) x' ∧ n < stepsN C f0 (rootsN C).toNat := by
  rcases h.line with ⟨e, j0, j1, hn⟩ | ⟨e, j0, j1, hn, hp, hc⟩ | ⟨e, _⟩
  · have hroot := h.near.root hC j0 j1
    obtain ⟨r0, r1, _⟩ := sp_root hC j0 j1
    have hld : ldP C s (rootP C.a C.b C.c C.d x.j) = rootW C f0 x.j := by
      unfold ldP; rw [z5_in _ (by omega) ⟨r0, r1⟩]; exact hroot
    have hm := stepsN_mono C f0 (j := x.j.toNat) (k := (rootsN C).toNat) (by omega)
    have hsz : n < stepsN C f0 (rootsN C).toNat := by omega
    have hw : (s.act C 1 (rootP C.a C.b C.c C.d x.j) 0 0).f = s.f := words_load _ _ _
    by_cases hc : isC (rootW C f0 x.j).toNat
    · refine ⟨s.act C 1 (rootP C.a C.b C.c C.d x.j) 0 0, { x with p := rootW C f0 x.j, l := 2 }, ?_, ⟨?_, .inr (.inl ⟨rfl, j0, j1, by rw [hn], rfl, hc⟩), ?_⟩, hsz⟩
      · unfold rootS; rw [if_pos e, hld, if_pos hc]
      · rw [hw]; exact h.near
      · rw [hw]; exact h.done
    · refine ⟨s.act C 1 (rootP C.a C.b C.c C.d x.j) 0 0, nextRoot C x, ?_, ⟨?_, ?_, ?_⟩, hsz⟩
      · unfold rootS; rw [if_pos e, hld, if_neg hc]
      · rw [hw]; exact h.near
      · have hs : n + 1 = stepsN C f0 (x.j + 1).toNat := by
          rw [show (x.j + 1).toNat = x.j.toNat + 1 by omega]
          show n + 1 = stepsN C f0 x.j.toNat + (if isC (rootW C f0 (x.j.toNat : Nat)).toNat then 2 else 1)
          rw [show ((x.j.toNat : Nat) : Int) = x.j by omega, if_neg hc, hn]
        unfold nextRoot
        by_cases hj : x.j + 1 < rootsN C
        · rw [if_pos hj]; exact .inl ⟨rfl, by show 0 ≤ x.j + 1; omega, hj, hs⟩
        · rw [if_neg hj]; exact .inr (.inr ⟨rfl, by show x.j + 1 = _; omega, hs⟩)
      · intro i i0 i1 hcol
        rw [hw]
        have i1 : i < x.j + 1 := i1
        by_cases hi : i = x.j
        · subst hi; exact absurd (colP_spot hC hcol).2.2.1 hc
        · exact h.done i i0 (by omega) hcol
  · have hm := stepsN_mono C f0 (j := x.j.toNat + 1) (k := (rootsN C).toNat) (by omega)
    have hs : n + 1 = stepsN C f0 (x.j + 1).toNat := by
      rw [show (x.j + 1).toNat = x.j.toNat + 1 by omega]
      show n + 1 = stepsN C f0 x.j.toNat + (if isC (rootW C f0 (x.j.toNat : Nat)).toNat then 2 else 1)
      rw [show ((x.j.toNat : Nat) : Int) = x.j by omega, ← hp, if_pos hc, hn]
    have hsz : n < stepsN C f0 (rootsN C).toNat := by
      rw [show (x.j + 1).toNat = x.j.toNat + 1 by omega] at hs
      omega
    have hw : (s.act C 3 (fieldP C.a C.b C.c C.d x.p.toNat 2) 0 1).f = if okD C.n 3 (colP C x.p) ∧ s.f (colP C x.p).toNat = 0 then upd s.f (colP C x.p).toNat 1 else s.f := cas_col s.f x.p
    refine ⟨s.act C 3 (fieldP C.a C.b C.c C.d x.p.toNat 2) 0 1, nextRoot C x, ?_, ⟨?_, ?_, ?_⟩, hsz⟩
    · unfold rootS; rw [if_neg (by omega), if_pos e]
    · rw [hw]
      by_cases hk : okD C.n 3 (colP C x.p) ∧ s.f (colP C x.p).toNat = 0
      · rw [if_pos hk]
        intro k
        by_cases hkk : k = (colP C x.p).toNat
        · have ho := hk.1
          unfold okD at ho
          refine .inr ⟨?_, by unfold upd; rw [if_pos hkk], x.j, j0, j1, by rw [← hp]; omega⟩
          rcases h.near k with e1 | ⟨e1, _⟩
          · rw [← e1, hkk]; exact hk.2
          · exact e1
        · rcases h.near k with e1 | e1
          · exact .inl (by unfold upd; rw [if_neg hkk]; exact e1)
          · exact .inr ⟨e1.1, by unfold upd; rw [if_neg hkk]; exact e1.2.1, e1.2.2⟩
      · rw [if_neg hk]; exact h.near
    · unfold nextRoot
      by_cases hj : x.j + 1 < rootsN C
      · rw [if_pos hj]; exact .inl ⟨rfl, by show 0 ≤ x.j + 1; omega, hj, hs⟩
      · rw [if_neg hj]; exact .inr (.inr ⟨rfl, by show x.j + 1 = _; omega, hs⟩)
    · intro i i0 i1 hcol
      have i1 : i < x.j + 1 := i1
      rw [hw]
      by_cases hk : okD C.n 3 (colP C x.p) ∧ s.f (colP C x.p).toNat = 0
      · rw [if_pos hk]
        unfold upd
        by_cases hkk : (colP C (rootW C f0 i)).toNat = (colP C x.p).toNat
        · rw [if_pos hkk]; decide
        · rw [if_neg hkk]
          by_cases hi : i = x.j
          · subst hi; rw [← hp] at hkk; exact absurd rfl hkk
          · exact h.done i i0 (by omega) hcol
      · rw [if_neg hk]
        by_cases hi : i = x.j
        · subst hi
          rw [← hp] at hcol ⊢
          intro h0
          exact hk ⟨⟨by omega, by omega, hcol, (colP_spot hC hcol).1⟩, h0⟩
        · exact h.done i i0 (by omega) hcol
  · omega
/-- Gone through once more, nothing turns. -/
theorem RtNear.quiet {C : Cf} {f1 f : Nat → Int} (h : RtNear C f1 f) (hd : ∀ i, 0 ≤ i → i < rootsN C → 0 ≤ colP C (rootW C f1 i) → f1 (colP C (rootW C f1 i)).toNat ≠ 0) : f = f1 := by
  funext k
  rcases h k with e | ⟨e1, _, i, i0, i1, e⟩
  · exact e
  · exfalso
    refine hd i i0 i1 (by omega) ?_
    rw [← e, Int.toNat_natCast]; exact e1
end Go.Proofs.YthdcapkchjamoaaGreatDoor
/- A law's collector beside a hand; what is there behind its steps, beside the words that were handed in. -/
namespace Go.Proofs.YthdcapkchjamoaaGreatDoor
open Go Go.RowKit
set_option maxRecDepth 100000
attribute [local go_sem ↓] Go.wp_at_zero Go.wp_at_succ

/-- The law's collector in block B, beside the hand; W0: the world ahead of the hand. -/
structure CkW (w W : World) (H A G B : Nat) (C : Cf) (s : Dy) (x : Co) : Prop where
  old : Below w.heap.size w W
  hand : HAt W H A G C s
  col : CoAt W B x
  lo : w.heap.size ≤ H ∧ w.heap.size ≤ G ∧ w.heap.size ≤ B
  ne : B ≠ H ∧ B ≠ A ∧ B ≠ G
namespace CkW
variable {w W V : World} {H A G B : Nat} {C : Cf} {s s' : Dy} {x : Co}
theorem below (h : CkW w W H A G B C s x) (hb : Below W.heap.size W V) : CkW w V H A G B C s x := ⟨belowOn h.old hb, h.hand.below hb, h.col.below hb, h.lo, h.ne⟩
theorem drew (h : CkW w W H A G B C s x) : CkW w W.drew H A G B C s x := ⟨h.old.drew, h.hand.drew, h.col.other rfl, h.lo, h.ne⟩
theorem step (h : CkW w W H A G B C s x) {v : Value} {e : Ending} (hp : HP W H A G C s' v e V) : e = .returned v ∧ CkW w V H A G B C s' x :=
  ⟨hp.1, hp.2.2.old h.old h.lo.1 h.lo.2.1, hp.2.1, h.col.savH hp.2.2 h.ne.1 h.ne.2.2, h.lo, h.ne⟩
theorem cells9 (h : CkW w W H A G B C s x) : W.cell? ⟨B, 0, none⟩ = some (.int .i64 x.l) ∧ W.cell? ⟨B, 1, none⟩ = some (.int .i64 x.j) ∧ W.cell? ⟨B, 2, none⟩ = some (.int .i64 x.c) ∧ W.cell? ⟨B, 3, none⟩ = some (.int .i64 x.m) ∧ W.cell? ⟨B, 4, none⟩ = some (.int .u64 x.a) ∧ W.cell? ⟨B, 5, none⟩ = some (.int .u64 x.p) ∧ W.cell? ⟨B, 6, none⟩ = some (.bool x.fd) ∧ W.cell? ⟨B, 7, none⟩ = some (.int .i64 x.tl) ∧ W.cell? ⟨B, 8, none⟩ = some (.int .i64 x.cy) ∧ (∀ j, W.frozen? ⟨B, j, none⟩ = false) := h.col.cells
theorem put (h : CkW w W H A G B C s x) (y : Co) : CkW w (put9 W B y.l y.j y.c y.m y.a y.p y.fd y.tl y.cy) H A G B C s y :=
  ⟨((Sav.of (S := fun _ => False) h.old).put9 (.inr h.lo.2.2) _ _ _ _ _ _ _ _ _).below (Nat.le_refl _) (fun _ _ e => e), h.hand.put9 h.ne.1 h.ne.2.1 h.ne.2.2 _ _ _ _ _ _ _ _ _, h.col.put _ _ _ _ _ _ _ _ _, h.lo, h.ne⟩
theorem setOther (h : CkW w W H A G B C s x) {p : Addr} (n1 : p.block ≠ H) (n2 : p.block ≠ A) (n3 : p.block ≠ G) (n4 : p.block ≠ B) (lo : w.heap.size ≤ p.block) (v : Value) : CkW w (W.setCell p v) H A G B C s x :=
  ⟨h.old.setCell (p := p) lo v, h.hand.setOther n1 n2 n3 v, h.col.setOther n4 v, h.lo, h.ne⟩
theorem first (hb : Below w.heap.size w W) (hH : HAt W H A G C s) (l1 : w.heap.size ≤ H) (l2 : w.heap.size ≤ G) (x : Co) : CkW w (W.alloc (.cells #[.int .i64 x.l, .int .i64 x.j, .int .i64 x.c, .int .i64 x.m, .int .u64 x.a, .int .u64 x.p, .bool x.fd, .int .i64 x.tl, .int .i64 x.cy] 28)) H A G W.heap.size C s x :=
  ⟨below_on hb _, hH.below (below_new _ _), Col9.new _ _ _ _ _ _ _ _ _ _, ⟨l1, l2, hb.size⟩, ⟨by have := hH.lt; omega, by have := hH.ar.lt; omega, by have := hH.ar.row.lt; omega⟩⟩
end CkW
/-- What is there then beside the words that were handed in, in a row of the law's own. -/
structure RnB (w W : World) (Z X : Nat) (C : Cf) (v0 : Option Addr) (f g : Nat → Int) : Prop where
  old : Below w.heap.size w W
  now : RowAt W Z 26 C.n g
  was : WordsAt W v0 C.n f
  box : BoxAt W X C.a C.b C.c C.d
namespace RnB
variable {w W V : World} {Z X : Nat} {C : Cf} {v0 : Option Addr} {f g : Nat → Int}
theorem below (h : RnB w W Z X C v0 f g) (hb : Below W.heap.size W V) : RnB w V Z X C v0 f g := ⟨belowOn h.old hb, h.now.below hb, h.was.below hb, h.box.below hb⟩
theorem drew (h : RnB w W Z X C v0 f g) : RnB w W.drew Z X C v0 f g := ⟨h.old.drew, h.now, h.was, h.box⟩
end RnB
/-- The place of a root's cell's colour, as the laws look for it. -/
theorem colP_at (C : Cf) (u : Nat) : partP C.a C.b C.c C.d 2 (cellR u) = colP C (u : Int) := by
  unfold colP fieldP cellR
  by_cases h : isC u
  · rw [if_pos h]; simp only [Int.toNat_natCast]; rw [if_pos ⟨h, by omega, by omega⟩]
  · rw [if_neg h]; simp only [Int.toNat_natCast]; rw [if_neg (fun e => h e.1)]
    unfold partP; rw [if_neg (by omega)]
/-- A place of a colour, among all words. -/
theorem col_rem {C : Cf} (hC : CfOK C) {w : Int} {k : Nat} (h : (k : Int) = colP C w) : 5 + C.b + C.d + C.b * C.c ≤ (k : Int) ∧ ((k : Int) - (5 + C.b + C.d + C.b * C.c)) % 3 = 2 ∧ k < C.n := by
  have h0 : 0 ≤ colP C w := by omega
  obtain ⟨e1, e2, e3, e4, e5⟩ := colP_spot hC h0
  have hp : partP C.a C.b C.c C.d 2 ((w.toNat / 2 : Nat) : Int) = 5 + C.b + C.d + C.b * C.c + 3 * ((w.toNat / 2 : Nat) : Int) + 2 := by unfold partP; rw [if_pos ⟨⟨by omega, e4⟩, hC.right⟩]
  have h9 : (k : Int) = 5 + C.b + C.d + C.b * C.c + 3 * ((w.toNat / 2 : Nat) : Int) + 2 := by rw [h, e5, hp]
  clear hp e5 e4 e3 e2
  omega
end Go.Proofs.YthdcapkchjamoaaGreatDoor
/- awake of mudlarklaw19. -/
namespace Go.Proofs.YthdcapkchjamoaaGreatDoor
open Go Go.RowKit
set_option maxRecDepth 100000
attribute [local go_sem ↓] Go.wp_at_zero Go.wp_at_succ

theorem nextRoot_U {C : Cf} {x : Co} (hx : x.U) : (nextRoot C x).U := ⟨hx.1, u64_zero⟩
theorem colS_U {C : Cf} {s : Dy} (h : s.U) (x : Co) (hx : x.U) : (colS C s x).1.U ∧ (colS C s x).2.1.U := by
  have h' : s.clr.U := h
  unfold colS
  split
  · exact rootS_U h' x hx
  split
  · exact passS_U h' x hx
  split
  · exact shutS_U h' x hx
  · exact sweepS_U h' x hx
abbrev C19 : Cf := ⟨13, 2, 1, 1, 0⟩
theorem right19 : Right 2 1 1 0 := by unfold Right; omega
def dA19 : Dy := ⟨fstV 2 1 1 0, 0, 0, 0, 0, 0⟩
/-- How far the law's own look is behind k steps. -/
def sq19 : Nat → Dy × Co
  | 0 => (dA19, ⟨1, 0, 0, 0, 0, 0, false, 1, 0⟩)
  | k + 1 => ((colS C19 (sq19 k).1 (sq19 k).2).1, (colS C19 (sq19 k).1 (sq19 k).2).2.1)
theorem sq19_U : ∀ k, (sq19 k).1.U ∧ (sq19 k).2.U
  | 0 => ⟨(show dA19.U from fst_u64 right19), u64_zero, u64_zero⟩
  | k + 1 => colS_U (sq19_U k).1 _ (sq19_U k).2
def wh19 (k : Nat) : Int := if k = 19 then 1 else if k = 24 then 3 else 0
theorem sq19_go : ∀ k, k < 25 → (colS C19 (sq19 k).1 (sq19 k).2).2.2 = wh19 k ∧ (-1000 ≤ (sq19 k).2.j ∧ (sq19 k).2.j ≤ 1000 ∧ -1000 ≤ (sq19 k).2.c ∧ (sq19 k).2.c ≤ 1000 ∧ -1000 ≤ (sq19 k).2.m ∧ (sq19 k).2.m ≤ 1000 ∧ -1000 ≤ (sq19 k).2.cy ∧ (sq19 k).2.cy ≤ 1000) := by decide +kernel
theorem sq19_flip : (sq19 20).1.f 9 = 2 ∧ (sq19 20).1.f 12 = 2 := by decide +kernel
theorem pc19 : partP 2 1 1 0 2 0 = 9 := by decide
theorem pd19 : partP 2 1 1 0 2 1 = 12 := by decide
set_option maxHeartbeats 6400000 in
theorem awake19_c (w : World) (hS : SpansAt w) :
    Calls Tryz.prog 4 #[] w fun e w' => e = .returned (.bool true) ∧ Below w.heap.size w w' := by
  have HB0 := Lib.hid (below_new w (.cells #[.int .i64 2, .int .i64 1, .int .i64 1, .int .i64 0] 23))
  have HX0 := Lib.hid (BoxAt.new w 2 1 1 0 23)
  have HN := Lib.hid (fun W h => New_yes 2 1 1 0 right19 W h)
  have HS := Lib.hid (hS.below HB0.out)
  have HC0 : Hid (∀ W, SpansAt W → Calls Tryz.prog 18 #[.agg #[.int .i64 2, .int .i64 1, .int .i64 1, .int .i64 0], .int .i64 0] W fun e w' => e = .returned (.int .i64 9) ∧ Below W.heap.size W w') := Lib.hid (fun W h => by have := Colour_c 2 1 1 0 0 W h; rw [pc19] at this; exact this)
  have HC1 : Hid (∀ W, SpansAt W → Calls Tryz.prog 18 #[.agg #[.int .i64 2, .int .i64 1, .int .i64 1, .int .i64 0], .int .i64 1] W fun e w' => e = .returned (.int .i64 12) ∧ Below W.heap.size W w') := Lib.hid (fun W h => by have := Colour_c 2 1 1 0 1 W h; rw [pd19] at this; exact this)
  have HL0 : Hid (∀ W A G, ArenaAt W A G 13 (sq19 20).1.f → Calls Tryz.prog 17 #[.pointer (some ⟨A, 0, none⟩), .int .i64 9] W fun e w' => e = .returned (.int .u64 2) ∧ W = w') := Lib.hid (fun W A G h => by have := Load_in h 9 (by omega); rw [sq19_flip.1] at this; exact this)
  have HL1 : Hid (∀ W A G, ArenaAt W A G 13 (sq19 20).1.f → Calls Tryz.prog 17 #[.pointer (some ⟨A, 0, none⟩), .int .i64 12] W fun e w' => e = .returned (.int .u64 2) ∧ W = w') := Lib.hid (fun W A G h => by have := Load_in h 12 (by omega); rw [sq19_flip.2] at this; exact this)
  have HBg : Hid (∀ W, Calls Tryz.prog 14 #[.agg #[.int .i64 2, .int .i64 1, .int .i64 1, .int .i64 0]] W fun e w' => e = .returned (colV 1 0 0 0 0 0 false 1 0) ∧ Below W.heap.size W w') := Lib.hid (fun W => Begin19_c 2 1 1 0 (by omega) W)
  have HPa : Hid (∀ k W H A G, k < 25 → SpansAt W → HAt W H A G C19 (sq19 k).1 → Calls Tryz.prog 10 #[.pointer (some ⟨H, 0, none⟩), (sq19 k).2.v] W (HP W H A G C19 (sq19 (k + 1)).1 (.tuple #[(sq19 (k + 1)).2.v, .int .i64 (wh19 k)]))) := Lib.hid (fun k W H A G hk h1 h2 => by
    have h := col_c (w := W) h2 (sq19_U k).1 h1 right19 (by decide) (sq19 k).2 (sq19_U k).2 (by have := (sq19_go k hk).2; omega)
    rw [(sq19_go k hk).1] at h
    exact h)
  obtain ⟨x0, x1, x2, x3⟩ := HX0.out
  clear hS
  go_enter Tryz.func4, Tryz.ntmps4
  go_wp2_with fail
  generalize w.alloc (.cells #[.int .i64 2, .int .i64 1, .int .i64 1, .int .i64 0] 23) = W1 at *
  refine (HN.out _ HS.out).mono ?_
  rintro e W2 ⟨n, hn, H, A, G, rfl, hF, hb, l1, l2, l3⟩
  obtain rfl : n = 13 := by omega
  have HB2 := Lib.hid hb; have HF2 : Hid (HAt W2 H A G C19 dA19) := Lib.hid hF
  have HX2 := Lib.hid (HX0.out.below hb)
  clear hF hb HN hn l2 x0 x1 x2 x3 HX0
  obtain ⟨x0, x1, x2, x3⟩ := HX2.out
  go_wp2_with fail
  refine (HBg.out _).mono ?_
  rintro e W3 ⟨rfl, hb⟩
  have HT4 := Lib.hid (CkW.first (belowOn HB2.out hb) (HF2.out.below hb) l1 l3 ⟨1, 0, 0, 0, 0, 0, false, 1, 0⟩)
  clear hb HB2 HF2 HX2 HBg x0 x1 x2 x3
  go_wp2_with fail
  generalize W3.alloc (.cells #[.int .i64 1, .int .i64 0, .int .i64 0, .int .i64 0, .int .u64 0, .int .u64 0, .bool false, .int .i64 1, .int .i64 0] 28) = W5 at *
  generalize W3.heap.size = B at *
  go_loopw [5, 6, 7] (fun fv cv nv wr => ∃ k : Nat, nv = .int .i64 k ∧ fv = .int .i64 (if k ≤ 19 then 0 else 1) ∧ cv = .int .i64 (if k ≤ 24 then 0 else 1) ∧ k ≤ 25 ∧ Hid (CkW W1 wr H A G B C19 (sq19 k).1 (sq19 k).2)) (fun _ _ nv _ => 25 - (intOf nv).toNat)
  case atStart => exact ⟨0, rfl, rfl, rfl, by omega, HT4⟩
  case round =>
    clear HT4
    obtain ⟨k, rfl, rfl, rfl, hk, HT⟩ := hrel
    by_cases hkT : k < 25
    · by_cases hkF : k = 19
      · obtain rfl : k = 19 := hkF
        have e1 : (if (19 : Nat) ≤ 19 then (0 : Int) else 1) = 0 := rfl
        have e2 : (if (19 : Nat) ≤ 24 then (0 : Int) else 1) = 0 := rfl
        have ew : wh19 19 = 1 := rfl
        rw [e1, e2]
        have HP := Lib.hid (HPa.out 19 wr H A G (by omega) (HS.out.below HT.out.old) HT.out.hand)
        rw [ew] at HP
        obtain ⟨b0, b1, b2, b3, b4, b5, b6, b7, b8, bf⟩ := HT.out.cells9
        clear ew
        generalize hx : (sq19 19).2 = x at *
        generalize hs : (sq19 19).1 = s at *
        clear hx hs
        generalize hx : (sq19 20).2 = x' at *
        generalize hs : (sq19 20).1 = s' at *
        obtain ⟨l, j, xc, m, xa, p, fd, tl, cy⟩ := x
        obtain ⟨l', j', xc', m', xa', p', fd', tl', cy'⟩ := x'
        dsimp only at HP b0 b1 b2 b3 b4 b5 b6 b7 b8
        go_wp2_with fail
        refine HP.out.mono ?_
        rintro e V hp
        obtain ⟨rfl, hT⟩ := HT.out.step hp
        have HT2 := Lib.hid hT
        have hBl : B < V.heap.size := hT.col.lt
        have hBn : B ≠ V.heap.size := by omega
        clear hp hT HT HP b0 b1 b2 b3 b4 b5 b6 b7 b8 bf
        obtain ⟨b0, b1, b2, b3, b4, b5, b6, b7, b8, bf⟩ := HT2.out.cells9
        go_wp2_with fail
        have HT3 := Lib.hid ((HT2.out.put ⟨l', j', xc', m', xa', p', fd', tl', cy'⟩).below (below_new _ (.cells #[.int .i64 l', .int .i64 j', .int .i64 xc', .int .i64 m', .int .u64 xa', .int .u64 p', .bool fd', .int .i64 tl', .int .i64 cy'] 28)))
        generalize ((((((((((V.setCell ⟨B, 0, none⟩ (.int .i64 l')).setCell ⟨B, 1, none⟩ (.int .i64 j')).setCell ⟨B, 2, none⟩ (.int .i64 xc')).setCell ⟨B, 3, none⟩ (.int .i64 m')).setCell ⟨B, 4, none⟩ (.int .u64 xa')).setCell ⟨B, 5, none⟩ (.int .u64 p')).setCell ⟨B, 6, none⟩ (.bool fd')).setCell ⟨B, 7, none⟩ (.int .i64 tl')).setCell ⟨B, 8, none⟩ (.int .i64 cy')).alloc (.cells #[.int .i64 l', .int .i64 j', .int .i64 xc', .int .i64 m', .int .u64 xa', .int .u64 p', .bool fd', .int .i64 tl', .int .i64 cy'] 28)) = W7 at *
        clear HT2 b0 b1 b2 b3 b4 b5 b6 b7 b8 bf
        have HT8 := Lib.hid HT3.out.drew
        have HSx := Lib.hid (HS.out.below HT8.out.old)
        obtain ⟨y0, ⟨y1, y2, y3, y4⟩, _⟩ := HT8.out.hand.cells
        dsimp only at y1 y2 y3 y4
        clear HT3
        go_region_held3 ((fun w' => w'.cell? ⟨H, 0, none⟩ = some (.pointer (some ⟨A, 0, none⟩)) ∧ w'.cell? ⟨H, 1, none⟩ = some (.int .i64 2) ∧ w'.cell? ⟨H, 2, none⟩ = some (.int .i64 1) ∧ w'.cell? ⟨H, 3, none⟩ = some (.int .i64 1) ∧ w'.cell? ⟨H, 4, none⟩ = some (.int .i64 0))) (exact ⟨y0, y1, y2, y3, y4⟩)
          (first
            | (go_at_call 18
               refine (HC0.out _ (HS.out.below HT8.out.old)).mono ?_
               rintro e V1 ⟨rfl, hb⟩
               have HT9 := Lib.hid (HT8.out.below hb)
               clear y0 y1 y2 y3 y4 hb HT8 HC0
               have HT8 := HT9
               clear HT9
               obtain ⟨y0, ⟨y1, y2, y3, y4⟩, _⟩ := HT8.out.hand.cells
               dsimp only at y1 y2 y3 y4)
            | (go_at_call 18
               refine (HC1.out _ (HS.out.below HT8.out.old)).mono ?_
               rintro e V1 ⟨rfl, hb⟩
               have HT9 := Lib.hid (HT8.out.below hb)
               clear y0 y1 y2 y3 y4 hb HT8 HC1
               have HT8 := HT9
               clear HT9
               obtain ⟨y0, ⟨y1, y2, y3, y4⟩, _⟩ := HT8.out.hand.cells
               dsimp only at y1 y2 y3 y4)
            | (go_at_call 17
               refine (HL0.out _ _ _ HT8.out.hand.ar).mono ?_
               rintro e V2 ⟨rfl, rfl⟩
               clear HL0)
            | (go_at_call 17
               refine (HL1.out _ _ _ HT8.out.hand.ar).mono ?_
               rintro e V2 ⟨rfl, rfl⟩
               clear HL1))
        clear y0 y1 y2 y3 y4
        go_wp2_with fail
        have HT3 := HT8
        clear HT8
        go_roundw
        case rel => exact ⟨20, by first | rfl | go_num, by first | rfl | go_num, by first | rfl | go_num, by omega, by rw [hx, hs]; exact HT3⟩
        case measure => simp [intOf]
      by_cases hkO : k = 24
      · obtain rfl : k = 24 := hkO
        have e1 : (if (24 : Nat) ≤ 19 then (0 : Int) else 1) = 1 := rfl
        have e2 : (if (24 : Nat) ≤ 24 then (0 : Int) else 1) = 0 := rfl
        have ew : wh19 24 = 3 := rfl
        rw [e1, e2]
        have HP := Lib.hid (HPa.out 24 wr H A G (by omega) (HS.out.below HT.out.old) HT.out.hand)
        rw [ew] at HP
        obtain ⟨b0, b1, b2, b3, b4, b5, b6, b7, b8, bf⟩ := HT.out.cells9
        clear ew
        generalize hx : (sq19 24).2 = x at *
        generalize hs : (sq19 24).1 = s at *
        clear hx hs
        generalize hx : (sq19 25).2 = x' at *
        generalize hs : (sq19 25).1 = s' at *
        obtain ⟨l, j, xc, m, xa, p, fd, tl, cy⟩ := x
        obtain ⟨l', j', xc', m', xa', p', fd', tl', cy'⟩ := x'
        dsimp only at HP b0 b1 b2 b3 b4 b5 b6 b7 b8
        go_wp2_with fail
        refine HP.out.mono ?_
        rintro e V hp
        obtain ⟨rfl, hT⟩ := HT.out.step hp
        have HT2 := Lib.hid hT
        have hBl : B < V.heap.size := hT.col.lt
        have hBn : B ≠ V.heap.size := by omega
        clear hp hT HT HP b0 b1 b2 b3 b4 b5 b6 b7 b8 bf
        obtain ⟨b0, b1, b2, b3, b4, b5, b6, b7, b8, bf⟩ := HT2.out.cells9
        go_wp2_with fail
        have HT3 := Lib.hid ((HT2.out.put ⟨l', j', xc', m', xa', p', fd', tl', cy'⟩).below (below_new _ (.cells #[.int .i64 l', .int .i64 j', .int .i64 xc', .int .i64 m', .int .u64 xa', .int .u64 p', .bool fd', .int .i64 tl', .int .i64 cy'] 28)))
        go_roundw
        case rel => exact ⟨25, by first | rfl | go_num, by first | rfl | go_num, by first | rfl | go_num, by omega, by rw [hx, hs]; exact HT3⟩
        case measure => simp [intOf]
      have ew : wh19 k = 0 := by unfold wh19; rw [if_neg hkF, if_neg hkO]
      have e2 : (if k ≤ 24 then (0 : Int) else 1) = 0 := if_pos (by omega)
      have e3 : (if k + 1 ≤ 19 then (0 : Int) else 1) = (if k ≤ 19 then (0 : Int) else 1) := by by_cases h : k ≤ 19; rw [if_pos h, if_pos (by omega)]; rw [if_neg h, if_neg (by omega)]
      have e4 : (if k + 1 ≤ 24 then (0 : Int) else 1) = 0 := if_pos (by omega)
      rw [e2]
      generalize hff : (if k ≤ 19 then (0 : Int) else 1) = ff at *
      have hk1 : IntKind.i64.wrap ((k : Int) + 1) = (k : Int) + 1 := IntWalk.i64_in _ (by omega)
      have hkI : (k : Int) < 100 := by omega
      have HP := Lib.hid (HPa.out k wr H A G (by omega) (HS.out.below HT.out.old) HT.out.hand)
      rw [ew] at HP
      obtain ⟨b0, b1, b2, b3, b4, b5, b6, b7, b8, bf⟩ := HT.out.cells9
      clear ew
      generalize hx : (sq19 k).2 = x at *
      generalize hs : (sq19 k).1 = s at *
      clear hx hs
      generalize hx : (sq19 (k + 1)).2 = x' at *
      generalize hs : (sq19 (k + 1)).1 = s' at *
      obtain ⟨l, j, xc, m, xa, p, fd, tl, cy⟩ := x
      obtain ⟨l', j', xc', m', xa', p', fd', tl', cy'⟩ := x'
      dsimp only at HP b0 b1 b2 b3 b4 b5 b6 b7 b8
      go_wp2_with fail
      refine HP.out.mono ?_
      rintro e V hp
      obtain ⟨rfl, hT⟩ := HT.out.step hp
      have HT2 := Lib.hid hT
      have hBl : B < V.heap.size := hT.col.lt
      have hBn : B ≠ V.heap.size := by omega
      clear hp hT HT HP b0 b1 b2 b3 b4 b5 b6 b7 b8 bf
      obtain ⟨b0, b1, b2, b3, b4, b5, b6, b7, b8, bf⟩ := HT2.out.cells9
      go_wp2_with fail
      have HT3 := Lib.hid ((HT2.out.put ⟨l', j', xc', m', xa', p', fd', tl', cy'⟩).below (below_new _ (.cells #[.int .i64 l', .int .i64 j', .int .i64 xc', .int .i64 m', .int .u64 xa', .int .u64 p', .bool fd', .int .i64 tl', .int .i64 cy'] 28)))
      go_roundw
      case rel => exact ⟨k + 1, by first | rfl | go_num, by rw [e3], by rw [e4], by omega, by rw [hx, hs]; exact HT3⟩
      case measure => simp [intOf]; omega
    · obtain rfl : k = 25 := by omega
      have e1 : (if (25 : Nat) ≤ 19 then (0 : Int) else 1) = 1 := rfl
      have e2 : (if (25 : Nat) ≤ 24 then (0 : Int) else 1) = 1 := rfl
      rw [e1, e2]
      go_wp2_with fail
      go_ret
      exact ⟨rfl, belowOn HB0.out HT.out.old⟩
end Go.Proofs.YthdcapkchjamoaaGreatDoor
/- Far of the document: are a collector's numbers within a million? -/
namespace Go.Proofs.YthdcapkchjamoaaGreatDoor
open Go Go.RowKit
set_option maxRecDepth 100000
attribute [local go_sem ↓] Go.wp_at_zero Go.wp_at_succ

/-- The numbers that Far looks at. -/
def farN (x : Co) : Nat → Int
  | 0 => x.j
  | 1 => x.c
  | 2 => x.m
  | 3 => x.tl
  | _ => x.cy
/-- Is it within a million? -/
def nearN (i : Int) : Prop := -1000000 ≤ i ∧ i ≤ 1000000
def Co.near (x : Co) : Prop := ∀ k, k < 5 → nearN (farN x k)
theorem Co.near.all {x : Co} (h : x.near) : nearN x.j ∧ nearN x.c ∧ nearN x.m ∧ nearN x.tl ∧ nearN x.cy := ⟨h 0 (by omega), h 1 (by omega), h 2 (by omega), h 3 (by omega), h 4 (by omega)⟩
def RowFar (w : World) (B : Nat) (x : Co) : Prop := w.heap[B]? = some (.cells #[.int .i64 x.j, .int .i64 x.c, .int .i64 x.m, .int .i64 x.tl, .int .i64 x.cy] 3 (0, 0))
theorem RowFar.at' {w : World} {B : Nat} {x : Co} (h : RowFar w B x) {k : Nat} (hk : k < 5) : w.cell? ⟨B, k, none⟩ = some (.int .i64 (farN x k)) := by
  unfold RowFar at h
  rcases (by omega : k = 0 ∨ k = 1 ∨ k = 2 ∨ k = 3 ∨ k = 4) with rfl | rfl | rfl | rfl | rfl
  all_goals simp [World.cell?, h, farN]
/-- What Far answers. -/
def FarPost (w : World) (x : Co) (e : Ending) (w' : World) : Prop := ∃ b : Bool, e = .returned (.bool b) ∧ Below w.heap.size w w' ∧ (b = false → x.near)
set_option maxHeartbeats 3200000 in
theorem Far_c (x : Co) (w : World) :
    Calls Tryz.prog 9 #[x.v] w (FarPost w x) := by
  have HX := Lib.hid (Col9.new w x.l x.j x.c x.m x.a x.p x.fd x.tl x.cy)
  have HB := Lib.hid (below_on (below_new w (.cells #[.int .i64 x.l, .int .i64 x.j, .int .i64 x.c, .int .i64 x.m, .int .u64 x.a, .int .u64 x.p, .bool x.fd, .int .i64 x.tl, .int .i64 x.cy] 28)) (.cells #[.int .i64 x.j, .int .i64 x.c, .int .i64 x.m, .int .i64 x.tl, .int .i64 x.cy] 3))
  have HR : Hid (RowFar ((w.alloc (.cells #[.int .i64 x.l, .int .i64 x.j, .int .i64 x.c, .int .i64 x.m, .int .u64 x.a, .int .u64 x.p, .bool x.fd, .int .i64 x.tl, .int .i64 x.cy] 28)).alloc (.cells #[.int .i64 x.j, .int .i64 x.c, .int .i64 x.m, .int .i64 x.tl, .int .i64 x.cy] 3)) (w.heap.size + 1) x) := Lib.hid (by
    have := newBlock (w.alloc (.cells #[.int .i64 x.l, .int .i64 x.j, .int .i64 x.c, .int .i64 x.m, .int .u64 x.a, .int .u64 x.p, .bool x.fd, .int .i64 x.tl, .int .i64 x.cy] 28)) (.cells #[.int .i64 x.j, .int .i64 x.c, .int .i64 x.m, .int .i64 x.tl, .int .i64 x.cy] 3)
    unfold RowFar
    simpa using this)
  obtain ⟨a0, a1, a2, a3, a4, a5, a6, a7, a8, af⟩ := HX.out.cells
  go_enter Tryz.func9, Tryz.ntmps9
  go_wp2_with fail
  generalize (w.alloc (.cells #[.int .i64 x.l, .int .i64 x.j, .int .i64 x.c, .int .i64 x.m, .int .u64 x.a, .int .u64 x.p, .bool x.fd, .int .i64 x.tl, .int .i64 x.cy] 28)).alloc (.cells #[.int .i64 x.j, .int .i64 x.c, .int .i64 x.m, .int .i64 x.tl, .int .i64 x.cy] 3) = W at *
  clear HX a0 a1 a2 a3 a4 a5 a6 a7 a8 af
  go_loopw [4] (fun iv wr => ∃ k : Nat, iv = .int .i64 k ∧ k ≤ 5 ∧ Hid (wr = W) ∧ Hid (∀ i, i < k → nearN (farN x i))) (fun iv _ => 5 - (intOf iv).toNat)
  case atStart => exact ⟨0, rfl, by omega, Lib.hid rfl, Lib.hid (fun i hi => absurd hi (by omega))⟩
  case round =>
    obtain ⟨k, rfl, hk, hwr, HN⟩ := hrel
    obtain rfl := hwr.out
    by_cases hlt : k < 5
    · have ck := HR.out.at' hlt
      have hk0 : (0 : Int) ≤ (k : Int) := by omega
      have hk5 : (k : Int) < 5 := by omega
      by_cases h1 : 1000000 < farN x k
      · have d1 : decide (1000000 < farN x k) = true := decide_eq_true h1
        generalize farN x k = q at *
        go_wp2_with fail
        go_ret
        exact ⟨true, rfl, HB.out, fun e => by cases e⟩
      · have d1 : decide (1000000 < farN x k) = false := decide_eq_false h1
        by_cases h2 : farN x k < -1000000
        · have d2 : decide (farN x k < -1000000) = true := decide_eq_true h2
          generalize farN x k = q at *
          go_wp2_with fail
          go_ret
          exact ⟨true, rfl, HB.out, fun e => by cases e⟩
        · have d2 : decide (farN x k < -1000000) = false := decide_eq_false h2
          have HN2 : Hid (∀ i, i < k + 1 → nearN (farN x i)) := Lib.hid (fun i hi => by
            by_cases e : i = k
            · subst e; unfold nearN; omega
            · exact HN.out i (by omega))
          generalize farN x k = q at *
          clear HN
          go_wp2_with fail
          go_roundw
          case rel => exact ⟨k + 1, by go_num, by omega, Lib.hid (by first | trivial | rfl), HN2⟩
          case measure => simp [intOf]; omega
    · obtain rfl : k = 5 := by omega
      go_wp2_with fail
      go_ret
      exact ⟨false, rfl, HB.out, fun _ => HN.out⟩
end Go.Proofs.YthdcapkchjamoaaGreatDoor
