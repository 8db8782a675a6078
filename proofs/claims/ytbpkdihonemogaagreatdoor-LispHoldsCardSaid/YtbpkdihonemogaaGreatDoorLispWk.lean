/- A mutator at work: what lies where; its small calls. -/
import Derived.Test.YtbpkdihonemogaaGreatDoorM7
namespace Go.Proofs.YtbpkdihonemogaaGreatDoor
open Go Go.RowKit
set_option maxRecDepth 100000
attribute [local go_sem ↓] Go.wp_at_zero Go.wp_at_succ

/-- A mutator at work: its hand, how far it is, its number; in block B, beside the hand. -/
structure WkAt (w : World) (B H A G : Nat) (C : Cf) (m : Int) (s : Dy) (x : Mu) : Prop where
  wk : w.heap[B]? = some (.cells #[.pointer (some ⟨H, 0, none⟩), .int .i64 x.l, .int .i64 x.q1, .int .i64 x.q2, .int .i64 x.q3, .int .i64 x.q4, .int .u64 x.m1, .int .u64 x.m2, .int .u64 x.m3, .int .u64 x.m4, .int .u64 x.m5, .int .u64 x.p, .int .i64 x.bk, .int .i64 x.rt, .int .i64 m] 126 (0, 0))
  hand : HAt w H A G C s
  n0 : B ≠ H
  n1 : B ≠ A
  n2 : B ≠ G
/-- What a call of its turns: the hand, the words, and itself. -/
def WS (H G B : Nat) : Nat → Prop := fun k => (k = H ∨ k = G) ∨ k = B
/-- What a call of its answers. -/
def WPost (w : World) (B H A G : Nat) (C : Cf) (m : Int) (v : Value) (s' : Dy) (x' : Mu) (e : Ending) (w' : World) : Prop := e = .returned v ∧ WkAt w' B H A G C m s' x' ∧ Sav (WS H G B) w w'
/-- How far a mutator is, laid into it. -/
abbrev putW (w : World) (B : Nat) (x : Mu) : World := ((((((((((((w.setCell ⟨B, 1, none⟩ (.int .i64 x.l)).setCell ⟨B, 2, none⟩ (.int .i64 x.q1)).setCell ⟨B, 3, none⟩ (.int .i64 x.q2)).setCell ⟨B, 4, none⟩ (.int .i64 x.q3)).setCell ⟨B, 5, none⟩ (.int .i64 x.q4)).setCell ⟨B, 6, none⟩ (.int .u64 x.m1)).setCell ⟨B, 7, none⟩ (.int .u64 x.m2)).setCell ⟨B, 8, none⟩ (.int .u64 x.m3)).setCell ⟨B, 9, none⟩ (.int .u64 x.m4)).setCell ⟨B, 10, none⟩ (.int .u64 x.m5)).setCell ⟨B, 11, none⟩ (.int .u64 x.p)).setCell ⟨B, 12, none⟩ (.int .i64 x.bk)).setCell ⟨B, 13, none⟩ (.int .i64 x.rt)
namespace WkAt
variable {w w' : World} {B H A G : Nat} {C : Cf} {m : Int} {s s' : Dy} {x : Mu}
theorem cells (h : WkAt w B H A G C m s x) : w.cell? ⟨B, 0, none⟩ = some (.pointer (some ⟨H, 0, none⟩)) ∧ w.cell? ⟨B, 1, none⟩ = some (.int .i64 x.l) ∧ w.cell? ⟨B, 2, none⟩ = some (.int .i64 x.q1) ∧ w.cell? ⟨B, 3, none⟩ = some (.int .i64 x.q2) ∧ w.cell? ⟨B, 4, none⟩ = some (.int .i64 x.q3) ∧ w.cell? ⟨B, 5, none⟩ = some (.int .i64 x.q4) ∧ w.cell? ⟨B, 6, none⟩ = some (.int .u64 x.m1) ∧ w.cell? ⟨B, 7, none⟩ = some (.int .u64 x.m2) ∧ w.cell? ⟨B, 8, none⟩ = some (.int .u64 x.m3) ∧ w.cell? ⟨B, 9, none⟩ = some (.int .u64 x.m4) ∧ w.cell? ⟨B, 10, none⟩ = some (.int .u64 x.m5) ∧ w.cell? ⟨B, 11, none⟩ = some (.int .u64 x.p) ∧ w.cell? ⟨B, 12, none⟩ = some (.int .i64 x.bk) ∧ w.cell? ⟨B, 13, none⟩ = some (.int .i64 x.rt) ∧ w.cell? ⟨B, 14, none⟩ = some (.int .i64 m) ∧ (∀ j, w.frozen? ⟨B, j, none⟩ = false) := by
  have h := h.wk
  refine ⟨by simp [World.cell?, h], by simp [World.cell?, h], by simp [World.cell?, h], by simp [World.cell?, h], by simp [World.cell?, h], by simp [World.cell?, h], by simp [World.cell?, h], by simp [World.cell?, h], by simp [World.cell?, h], by simp [World.cell?, h], by simp [World.cell?, h], by simp [World.cell?, h], by simp [World.cell?, h], by simp [World.cell?, h], by simp [World.cell?, h], fun j => by simp [World.frozen?, h]⟩
theorem lt (h : WkAt w B H A G C m s x) : B < w.heap.size := (Array.getElem?_eq_some_iff.1 h.wk).1
theorem below (h : WkAt w B H A G C m s x) (hb : Below w.heap.size w w') : WkAt w' B H A G C m s x := ⟨(hb.block _ h.lt).trans h.wk, h.hand.below hb, h.n0, h.n1, h.n2⟩
theorem drew (h : WkAt w B H A G C m s x) : WkAt w.drew B H A G C m s x := ⟨h.wk, h.hand.drew, h.n0, h.n1, h.n2⟩
theorem handed (h : WkAt w B H A G C m s x) (hF : HAt w' H A G C s') (hs : Sav (HG H G) w w') : WkAt w' B H A G C m s' x := ⟨(hs.block B h.lt (fun e => e.elim h.n0 h.n2)).trans h.wk, hF, h.n0, h.n1, h.n2⟩
theorem setL (h : WkAt w B H A G C m s x) (z : Int) : WkAt (w.setCell ⟨B, 1, none⟩ (.int .i64 z)) B H A G C m s { x with l := z } :=
  ⟨by have := h.wk; simp [World.setCell, Array.getElem?_modify, this], h.hand.setOther h.n0 h.n1 h.n2 _, h.n0, h.n1, h.n2⟩
theorem setA (h : WkAt w B H A G C m s x) (z : Int) : WkAt (w.setCell ⟨B, 6, none⟩ (.int .u64 z)) B H A G C m s { x with m1 := z } :=
  ⟨by have := h.wk; simp [World.setCell, Array.getElem?_modify, this], h.hand.setOther h.n0 h.n1 h.n2 _, h.n0, h.n1, h.n2⟩
theorem setB (h : WkAt w B H A G C m s x) (z : Int) : WkAt (w.setCell ⟨B, 7, none⟩ (.int .u64 z)) B H A G C m s { x with m2 := z } :=
  ⟨by have := h.wk; simp [World.setCell, Array.getElem?_modify, this], h.hand.setOther h.n0 h.n1 h.n2 _, h.n0, h.n1, h.n2⟩
theorem setR (h : WkAt w B H A G C m s x) (z : Int) : WkAt (w.setCell ⟨B, 13, none⟩ (.int .i64 z)) B H A G C m s { x with rt := z } :=
  ⟨by have := h.wk; simp [World.setCell, Array.getElem?_modify, this], h.hand.setOther h.n0 h.n1 h.n2 _, h.n0, h.n1, h.n2⟩
theorem put (h : WkAt w B H A G C m s x) (y : Mu) : WkAt (putW w B y) B H A G C m s y :=
  ⟨by have := h.wk; simp [World.setCell, Array.getElem?_modify, this], ((((((((((((h.hand.setOther h.n0 h.n1 h.n2 _).setOther h.n0 h.n1 h.n2 _).setOther h.n0 h.n1 h.n2 _).setOther h.n0 h.n1 h.n2 _).setOther h.n0 h.n1 h.n2 _).setOther h.n0 h.n1 h.n2 _).setOther h.n0 h.n1 h.n2 _).setOther h.n0 h.n1 h.n2 _).setOther h.n0 h.n1 h.n2 _).setOther h.n0 h.n1 h.n2 _).setOther h.n0 h.n1 h.n2 _).setOther h.n0 h.n1 h.n2 _).setOther h.n0 h.n1 h.n2 _, h.n0, h.n1, h.n2⟩
end WkAt
theorem Sav.putW {S : Nat → Prop} {w w' : World} (h : Sav S w w') {B : Nat} (hB : S B) (x : Mu) : Sav S w (putW w' B x) :=
  ((((((((((((h.set (p := ⟨B, 1, none⟩) (.inl hB) _).set (p := ⟨B, 2, none⟩) (.inl hB) _).set (p := ⟨B, 3, none⟩) (.inl hB) _).set (p := ⟨B, 4, none⟩) (.inl hB) _).set (p := ⟨B, 5, none⟩) (.inl hB) _).set (p := ⟨B, 6, none⟩) (.inl hB) _).set (p := ⟨B, 7, none⟩) (.inl hB) _).set (p := ⟨B, 8, none⟩) (.inl hB) _).set (p := ⟨B, 9, none⟩) (.inl hB) _).set (p := ⟨B, 10, none⟩) (.inl hB) _).set (p := ⟨B, 11, none⟩) (.inl hB) _).set (p := ⟨B, 12, none⟩) (.inl hB) _).set (p := ⟨B, 13, none⟩) (.inl hB) _
theorem hgWS {H G B : Nat} {w w' : World} (h : Sav (HG H G) w w') : Sav (WS H G B) w w' := h.mono (fun _ e => .inl e)
/-- The configuration's table is no hand's. -/
theorem spans_sav {w w' : World} {H A G : Nat} {C : Cf} {s : Dy} (hn : 0 < C.n) (hS : SpansAt w) (hH : HAt w H A G C s) (hs : Sav (HG H G) w w') : SpansAt w' := by
  have hl := lt_of_cell hS.1.1
  have nH : 0 ≠ H := by
    intro e
    have h1 := hS.1.1
    have h2 := hH.cells.1
    rw [← e, h1] at h2
    cases h2
  have nG : 0 ≠ G := by
    intro e
    have h1 := hS.1.1
    have h2 := hH.ar.row.cell hn
    rw [← e, h1] at h2
    cases h2
  have key : ∀ j v, w.cell? ⟨0, j, none⟩ = some v → w'.cell? ⟨0, j, none⟩ = some v := fun j v e => by
    have hb := hs.block _ hl (fun e => e.elim nH nG)
    rw [← e]
    unfold World.cell?
    rw [hb]
  obtain ⟨⟨a1, a2, a3⟩, ⟨b1, b2, b3⟩, ⟨c1, c2, c3⟩, ⟨d1, d2, d3⟩⟩ := hS
  exact ⟨⟨key _ _ a1, key _ _ a2, key _ _ a3⟩, ⟨key _ _ b1, key _ _ b2, key _ _ b3⟩, ⟨key _ _ c1, key _ _ c2, key _ _ c3⟩, ⟨key _ _ d1, key _ _ d2, key _ _ d3⟩⟩
set_option maxHeartbeats 1600000 in
theorem goOn_c' {w : World} {B H A G : Nat} {C : Cf} {m : Int} {s : Dy} {x : Mu} (h : WkAt w B H A G C m s x) (k : Int) :
    Calls Tryz.prog 131 #[.pointer (some ⟨B, 0, none⟩), .int .i64 k] w (WPost w B H A G C m (.bool false) s { x with l := k }) := by
  have HW0 := Lib.hid h
  have HQ0 : Hid (Sav (WS H G B) w w) := Lib.hid (Sav.of (Below.refl _ _))
  clear h
  obtain ⟨c0, c1, c2, c3, c4, c5, c6, c7, c8, c9, c10, c11, c12, c13, c14, cf⟩ := HW0.out.cells
  (try dsimp only at c1 c2 c3 c4 c5 c6 c7 c8 c9 c10 c11 c12 c13)
  go_enter Tryz.func131, Tryz.ntmps131
  go_wp2_with fail
  go_ret
  have HW1 := Lib.hid (HW0.out.setL k)
  have HQ1 := Lib.hid (HQ0.out.set (p := ⟨B, 1, none⟩) (.inl (.inr rfl)) (.int .i64 k))
  clear HW0 HQ0
  exact ⟨rfl, HW1.out, HQ1.out⟩
set_option maxHeartbeats 1600000 in
theorem end_c {w : World} {B H A G : Nat} {C : Cf} {m : Int} {s : Dy} {x : Mu} (h : WkAt w B H A G C m s x) (k : Int) :
    Calls Tryz.prog 130 #[.pointer (some ⟨B, 0, none⟩), .int .i64 k] w (WPost w B H A G C m (.bool true) s { x with rt := k, l := 90 }) := by
  have HW0 := Lib.hid h
  have HQ0 : Hid (Sav (WS H G B) w w) := Lib.hid (Sav.of (Below.refl _ _))
  clear h
  obtain ⟨c0, c1, c2, c3, c4, c5, c6, c7, c8, c9, c10, c11, c12, c13, c14, cf⟩ := HW0.out.cells
  (try dsimp only at c1 c2 c3 c4 c5 c6 c7 c8 c9 c10 c11 c12 c13)
  go_enter Tryz.func130, Tryz.ntmps130
  go_wp2_with fail
  go_ret
  have HW1 := Lib.hid (HW0.out.setR k)
  have HQ1 := Lib.hid (HQ0.out.set (p := ⟨B, 13, none⟩) (.inl (.inr rfl)) (.int .i64 k))
  clear HW0 HQ0
  have HW2 := Lib.hid (HW1.out.setL 90)
  have HQ2 := Lib.hid (HQ1.out.set (p := ⟨B, 1, none⟩) (.inl (.inr rfl)) (.int .i64 90))
  clear HW1 HQ1
  exact ⟨rfl, HW2.out, HQ2.out⟩
set_option maxHeartbeats 1600000 in
theorem shade_c' {w : World} {B H A G : Nat} {C : Cf} {m : Int} {s : Dy} {x : Mu} (h : WkAt w B H A G C m s x) (z : Int) (hz : U64 z) (k : Int) :
    Calls Tryz.prog 136 #[.pointer (some ⟨B, 0, none⟩), .int .u64 z, .int .i64 k] w (WPost w B H A G C m (.tuple #[]) s (begM x z k)) := by
  obtain ⟨v, rfl, hv⟩ := u64_nat' hz
  have hb0 : begM x (v : Int) k = { x with l := begL v k, p := begP v, bk := begB v k } := by unfold begM; simp only [Int.toNat_natCast]
  rw [hb0]; clear hb0 hz
  have HW0 := Lib.hid h
  have HQ0 : Hid (Sav (WS H G B) w w) := Lib.hid (Sav.of (Below.refl _ _))
  clear h
  obtain ⟨c0, c1, c2, c3, c4, c5, c6, c7, c8, c9, c10, c11, c12, c13, c14, cf⟩ := HW0.out.cells
  (try dsimp only at c1 c2 c3 c4 c5 c6 c7 c8 c9 c10 c11 c12 c13)
  have HB := Lib.hid (fun W => Begin_c x.l x.p x.bk x.q1 x.q2 x.q3 x.q4 x.m1 x.m2 x.m3 x.m4 x.m5 x.rt v hv k W)
  generalize begL v k = L at *
  generalize begP v = P at *
  generalize begB v k = Q at *
  clear hv
  go_enter Tryz.func136, Tryz.ntmps136
  go_wp2_with fail
  refine (HB.out _).mono ?_
  rintro e V1 ⟨rfl, hb⟩
  have HW1 := Lib.hid (HW0.out.below hb)
  have HQ1 := Lib.hid (HQ0.out.trans (Sav.of hb))
  clear HW0 HQ0 HB hb c0 c1 c2 c3 c4 c5 c6 c7 c8 c9 c10 c11 c12 c13 c14 cf
  obtain ⟨c0, c1, c2, c3, c4, c5, c6, c7, c8, c9, c10, c11, c12, c13, c14, cf⟩ := HW1.out.cells
  (try dsimp only at c1 c2 c3 c4 c5 c6 c7 c8 c9 c10 c11 c12 c13)
  go_wp2_with fail
  go_end0
  exact ⟨rfl, HW1.out.put { x with l := L, p := P, bk := Q }, HQ1.out.putW (.inr rfl) { x with l := L, p := P, bk := Q }⟩
set_option maxHeartbeats 1600000 in
theorem succeed_c {w : World} {B H A G : Nat} {C : Cf} {m : Int} {s : Dy} {x : Mu} (h : WkAt w B H A G C m s x) (z : Int) (hz : U64 z) :
    Calls Tryz.prog 132 #[.pointer (some ⟨B, 0, none⟩), .int .u64 z] w (WPost w B H A G C m (.tuple #[]) s (begM { x with rt := 1 } z 90)) := by
  have HW0 := Lib.hid h
  have HQ0 : Hid (Sav (WS H G B) w w) := Lib.hid (Sav.of (Below.refl _ _))
  clear h
  obtain ⟨c0, c1, c2, c3, c4, c5, c6, c7, c8, c9, c10, c11, c12, c13, c14, cf⟩ := HW0.out.cells
  (try dsimp only at c1 c2 c3 c4 c5 c6 c7 c8 c9 c10 c11 c12 c13)
  have HB := Lib.hid (fun W h => shade_c' (w := W) (B := B) (H := H) (A := A) (G := G) (C := C) (m := m) (s := s) (x := { x with rt := 1 }) h z hz 90)
  generalize begM { x with rt := 1 } z 90 = y at *
  clear hz
  go_enter Tryz.func132, Tryz.ntmps132
  go_wp2_with fail
  have HW1 := Lib.hid (HW0.out.setR 1)
  have HQ1 := Lib.hid (HQ0.out.set (p := ⟨B, 13, none⟩) (.inl (.inr rfl)) (.int .i64 1))
  clear HW0 HQ0
  refine (HB.out _ HW1.out).mono ?_
  rintro e V1 ⟨rfl, hW, hs⟩
  have HW2 := Lib.hid hW
  have HQ2 := Lib.hid (HQ1.out.trans hs)
  clear HW1 HQ1 HB hW hs c0 c1 c2 c3 c4 c5 c6 c7 c8 c9 c10 c11 c12 c13 c14 cf
  go_wp2_with fail
  go_end0
  exact ⟨rfl, HW2.out, HQ2.out⟩
set_option maxHeartbeats 1600000 in
theorem reg_c {w : World} {B H A G : Nat} {C : Cf} {m : Int} {s : Dy} {x : Mu} (h : WkAt w B H A G C m s x) (hS : SpansAt w) (r : Int) :
    Calls Tryz.prog 129 #[.pointer (some ⟨B, 0, none⟩), .int .i64 r] w fun e w' => e = .returned (.int .i64 (regP C.a C.b C.c C.d m r)) ∧ Below w.heap.size w w' := by
  obtain ⟨c0, _, _, _, _, _, _, _, _, _, _, _, _, _, c14, _⟩ := h.cells
  obtain ⟨_, ⟨h1, h2, h3, h4⟩, _⟩ := h.hand.cells
  have HC := Lib.hid (Reg_c C.a C.b C.c C.d m r w.drew hS)
  generalize regP C.a C.b C.c C.d m r = P at *
  have HW := Lib.hid h
  clear h hS
  go_enter Tryz.func129, Tryz.ntmps129
  go_wp2_with fail
  refine wp_region_held_drew (S := (fun w' => w'.cell? ⟨B, 0, none⟩ = some (.pointer (some ⟨H, 0, none⟩)) ∧ w'.cell? ⟨B, 14, none⟩ = some (.int .i64 m) ∧ w'.cell? ⟨H, 1, none⟩ = some (.int .i64 C.a) ∧ w'.cell? ⟨H, 2, none⟩ = some (.int .i64 C.b) ∧ w'.cell? ⟨H, 3, none⟩ = some (.int .i64 C.c) ∧ w'.cell? ⟨H, 4, none⟩ = some (.int .i64 C.d))) (by kernel_rfl) ?_ (fun hHeld => ?_)
  · exact ⟨c0, c14, h1, h2, h3, h4⟩
  refine wpAnyH_take (i := 0) (oi := { dst := some 5, op := Op.move (Operand.tmp 0), type := 127, pos := "lisp.go:276", after := #[], guard := none }) (v := ?vq0) rfl (by kernel_rfl) (by kernel_rfl) (by kernel_rfl) (fun _ _ _ h => h) (Or.inl ⟨by rfl, ?hyq0⟩) hHeld ?_
  case hyq0 => (intro w hSw; (try dsimp only at hSw); go_simp; (try with_reducible rfl))
  try simp only [Act.put, List.setIfInBounds_toArray, List.set_cons_zero, List.set_cons_succ]
  refine wpAnyH_take (i := 1) (oi := { dst := some 6, op := Op.nilCheck (Operand.tmp 5), type := 0, pos := "lisp.go:276", after := #[{ on := 0, ground := Ground.data }], guard := none }) (v := ?vq1) rfl (by kernel_rfl) (by kernel_rfl) (by kernel_rfl) (fun _ _ _ h => h) (Or.inl ⟨by rfl, ?hyq1⟩) hHeld ?_
  case hyq1 => (intro w hSw; (try dsimp only at hSw); go_simp; (try with_reducible rfl))
  try simp only [Act.put, List.setIfInBounds_toArray, List.set_cons_zero, List.set_cons_succ]
  refine wpAnyH_take (i := 2) (oi := { dst := some 7, op := Op.fieldAddr 126 (Operand.tmp 6) 0, type := 0, pos := "lisp.go:276", after := #[{ on := 1, ground := Ground.data }], guard := none }) (v := ?vq2) rfl (by kernel_rfl) (by kernel_rfl) (by kernel_rfl) (fun _ _ _ h => h) (Or.inl ⟨by rfl, ?hyq2⟩) hHeld ?_
  case hyq2 => (intro w hSw; (try dsimp only at hSw); go_simp; (try with_reducible rfl))
  try simp only [Act.put, List.setIfInBounds_toArray, List.set_cons_zero, List.set_cons_succ]
  refine wpAnyH_take (i := 3) (oi := { dst := some 8, op := Op.load 43 (Operand.tmp 7), type := 43, pos := "lisp.go:276", after := #[{ on := 2, ground := Ground.data }], guard := none }) (v := ?vq3) rfl (by kernel_rfl) (by kernel_rfl) (by kernel_rfl) (fun _ _ _ h => h) (Or.inl ⟨by rfl, ?hyq3⟩) hHeld ?_
  case hyq3 => (intro w hSw; (try dsimp only at hSw); go_simp; (try with_reducible rfl))
  try simp only [Act.put, List.setIfInBounds_toArray, List.set_cons_zero, List.set_cons_succ]
  refine wpAnyH_take (i := 4) (oi := { dst := some 9, op := Op.nilCheck (Operand.tmp 8), type := 0, pos := "lisp.go:276", after := #[{ on := 3, ground := Ground.data }], guard := none }) (v := ?vq4) rfl (by kernel_rfl) (by kernel_rfl) (by kernel_rfl) (fun _ _ _ h => h) (Or.inl ⟨by rfl, ?hyq4⟩) hHeld ?_
  case hyq4 => (intro w hSw; (try dsimp only at hSw); go_simp; (try with_reducible rfl))
  try simp only [Act.put, List.setIfInBounds_toArray, List.set_cons_zero, List.set_cons_succ]
  refine wpAnyH_take (i := 5) (oi := { dst := some 10, op := Op.fieldAddr 62 (Operand.tmp 9) 1, type := 0, pos := "lisp.go:276", after := #[{ on := 4, ground := Ground.data }], guard := none }) (v := ?vq5) rfl (by kernel_rfl) (by kernel_rfl) (by kernel_rfl) (fun _ _ _ h => h) (Or.inl ⟨by rfl, ?hyq5⟩) hHeld ?_
  case hyq5 => (intro w hSw; (try dsimp only at hSw); go_simp; (try with_reducible rfl))
  try simp only [Act.put, List.setIfInBounds_toArray, List.set_cons_zero, List.set_cons_succ]
  refine wpAnyH_take (i := 6) (oi := { dst := some 11, op := Op.load 58 (Operand.tmp 10), type := 58, pos := "lisp.go:276", after := #[{ on := 5, ground := Ground.data }], guard := none }) (v := ?vq6) rfl (by kernel_rfl) (by kernel_rfl) (by kernel_rfl) (fun _ _ _ h => h) (Or.inl ⟨by rfl, ?hyq6⟩) hHeld ?_
  case hyq6 => (intro w hSw; (try dsimp only at hSw); go_simp; (try with_reducible rfl))
  try simp only [Act.put, List.setIfInBounds_toArray, List.set_cons_zero, List.set_cons_succ]
  refine wpAnyH_take (i := 7) (oi := { dst := some 12, op := Op.move (Operand.tmp 0), type := 127, pos := "lisp.go:276", after := #[], guard := none }) (v := ?vq7) rfl (by kernel_rfl) (by kernel_rfl) (by kernel_rfl) (fun _ _ _ h => h) (Or.inl ⟨by rfl, ?hyq7⟩) hHeld ?_
  case hyq7 => (intro w hSw; (try dsimp only at hSw); go_simp; (try with_reducible rfl))
  try simp only [Act.put, List.setIfInBounds_toArray, List.set_cons_zero, List.set_cons_succ]
  refine wpAnyH_take (i := 8) (oi := { dst := some 13, op := Op.nilCheck (Operand.tmp 12), type := 0, pos := "lisp.go:276", after := #[{ on := 7, ground := Ground.data }], guard := none }) (v := ?vq8) rfl (by kernel_rfl) (by kernel_rfl) (by kernel_rfl) (fun _ _ _ h => h) (Or.inl ⟨by rfl, ?hyq8⟩) hHeld ?_
  case hyq8 => (intro w hSw; (try dsimp only at hSw); go_simp; (try with_reducible rfl))
  try simp only [Act.put, List.setIfInBounds_toArray, List.set_cons_zero, List.set_cons_succ]
  refine wpAnyH_take (i := 9) (oi := { dst := some 14, op := Op.fieldAddr 126 (Operand.tmp 13) 2, type := 0, pos := "lisp.go:276", after := #[{ on := 8, ground := Ground.data }], guard := none }) (v := ?vq9) rfl (by kernel_rfl) (by kernel_rfl) (by kernel_rfl) (fun _ _ _ h => h) (Or.inl ⟨by rfl, ?hyq9⟩) hHeld ?_
  case hyq9 => (intro w hSw; (try dsimp only at hSw); go_simp; (try with_reducible rfl))
  try simp only [Act.put, List.setIfInBounds_toArray, List.set_cons_zero, List.set_cons_succ]
  refine wpAnyH_take (i := 10) (oi := { dst := some 15, op := Op.load 3 (Operand.tmp 14), type := 3, pos := "lisp.go:276", after := #[{ on := 9, ground := Ground.data }], guard := none }) (v := ?vq10) rfl (by kernel_rfl) (by kernel_rfl) (by kernel_rfl) (fun _ _ _ h => h) (Or.inl ⟨by rfl, ?hyq10⟩) hHeld ?_
  case hyq10 => (intro w hSw; (try dsimp only at hSw); go_simp; (try with_reducible rfl))
  try simp only [Act.put, List.setIfInBounds_toArray, List.set_cons_zero, List.set_cons_succ]
  refine wpAnyH_take (i := 11) (oi := { dst := some 16, op := Op.move (Operand.tmp 1), type := 3, pos := "lisp.go:276", after := #[], guard := none }) (v := ?vq11) rfl (by kernel_rfl) (by kernel_rfl) (by kernel_rfl) (fun _ _ _ h => h) (Or.inl ⟨by rfl, ?hyq11⟩) hHeld ?_
  case hyq11 => (intro w hSw; (try dsimp only at hSw); go_simp; (try with_reducible rfl))
  try simp only [Act.put, List.setIfInBounds_toArray, List.set_cons_zero, List.set_cons_succ]
  refine wpAnyH_ready (rs := [12]) (by kernel_rfl) (by simp) ?_
  refine AllReadyH.cons (o := { dst := some 17, op := Op.call { callee := Callee.value (Operand.func 24), args := #[Operand.tmp 11, Operand.tmp 15, Operand.tmp 16], argTypes := #[58, 3, 3] }, type := 3, pos := "lisp.go:276", after := #[{ on := 6, ground := Ground.data }, { on := 10, ground := Ground.data }, { on := 11, ground := Ground.data }], guard := none }) rfl (fun K hK => ?_) AllReadyH.nil
  go_simp
  refine HC.out.mono ?_
  rintro e V1 ⟨rfl, hb⟩
  have HB := Lib.hid hb
  have HW1 := Lib.hid (HW.out.drew.below hb)
  clear hb HC hHeld HW c0 c14 h1 h2 h3 h4
  obtain ⟨c0, _, _, _, _, _, _, _, _, _, _, _, _, _, c14, _⟩ := HW1.out.cells
  obtain ⟨_, ⟨h1, h2, h3, h4⟩, _⟩ := HW1.out.hand.cells
  refine hK.out _ _ ?_ (fun hHeld => ?_)
  · exact ⟨c0, c14, h1, h2, h3, h4⟩
  clear hK K
  try simp only [Act.put, List.setIfInBounds_toArray, List.set_cons_zero, List.set_cons_succ]
  refine wpAnyH_take (i := 13) (oi := { dst := some 4, op := Op.assign (Operand.tmp 17), type := 3, pos := "lisp.go:276", after := #[{ on := 12, ground := Ground.data }, { on := 12, ground := Ground.chain }, { on := 0, ground := Ground.phase }, { on := 1, ground := Ground.phase }, { on := 2, ground := Ground.phase }, { on := 3, ground := Ground.phase }, { on := 4, ground := Ground.phase }, { on := 5, ground := Ground.phase }, { on := 6, ground := Ground.phase }, { on := 7, ground := Ground.phase }, { on := 8, ground := Ground.phase }, { on := 9, ground := Ground.phase }, { on := 10, ground := Ground.phase }, { on := 11, ground := Ground.phase }, { on := 12, ground := Ground.phase }], guard := none }) (v := ?vq13) rfl (by kernel_rfl) (by kernel_rfl) (by kernel_rfl) (fun _ _ _ h => h) (Or.inl ⟨by rfl, ?hyq13⟩) hHeld ?_
  case hyq13 => (intro w hSw; (try dsimp only at hSw); go_simp; (try with_reducible rfl))
  try simp only [Act.put, List.setIfInBounds_toArray, List.set_cons_zero, List.set_cons_succ]
  refine wpAnyH_done (by kernel_rfl) ?_ _
  clear hHeld HW1 c0 c14 h1 h2 h3 h4
  go_wp2_with fail
  go_ret
  exact ⟨rfl, belowOn (Below.refl _ _).drew HB.out⟩
end Go.Proofs.YtbpkdihonemogaaGreatDoor
