/- Package ideal's cons: a new cell, or nothing if the store is told to be full. -/
import Derived.Test.YtbpkdihonemogaaGreatDoorIdealBring
namespace Go.Proofs.YtbpkdihonemogaaGreatDoor.Il
open Go Go.RowKit
set_option maxRecDepth 100000
attribute [local go_sem ↓] Go.wp_at_zero Go.wp_at_succ

/-- What Do answers. -/
def DoPost (w : World) (X R L : Nat) (v : Value) (b c d : Nat) (s : St) (r : Int) (e : Ending) (w' : World) : Prop :=
  ∃ v', e = .returned (.int .i64 r) ∧ StoreAt w' X R L v' b c d s ∧ (∀ k, v'.ownBlock = some k → v.ownBlock = some k ∨ w.heap.size ≤ k) ∧ Sav (foot X R L v) w w'
theorem ActPost.does {w : World} {X R L : Nat} {v : Value} {b c d : Nat} {s : St} {r : Int} {e : Ending} {w' : World} (h : ActPost w X R L v b c d s r e w') : DoPost w X R L v b c d s r e w' := ⟨v, h.1, h.2.1, fun _ e => .inl e, h.2.2⟩
theorem wordsL_next (n : Nat) (f g : Nat → Nat) (h : ∀ j, j < n * 2 → g j = f j) : wordsL ((n + 1) * 2) g = wordsL (n * 2) f ++ [.int .u64 (g (n * 2)), .int .u64 (g (n * 2 + 1))] := by
  unfold wordsL
  rw [show (n + 1) * 2 = n * 2 + 1 + 1 by omega, List.range_succ, List.range_succ, List.map_append, List.map_append, List.append_assoc]
  rw [show (List.range (n * 2)).map (fun j => Value.int .u64 ((g j : Nat) : Int)) = (List.range (n * 2)).map (fun j => Value.int .u64 ((f j : Nat) : Int)) from List.map_congr_left (fun j hj => by rw [h j (List.mem_range.1 hj)])]
  rfl
/-- The store with a new cell, ahead of the register. -/
def grown (s : St) (u1 u2 : Nat) : St := ⟨putG (putG s.g 2 s.n 0 u1) 3 s.n 0 u2, s.n + 1⟩
theorem grown_made (s : St) (u1 u2 : Nat) : wordsL ((s.n + 1) * 2) (madeF (grown s u1 u2)) = wordsL (s.n * 2) (madeF s) ++ [.int .u64 u1, .int .u64 u2] := by
  have e1 : madeF (grown s u1 u2) (s.n * 2) = u1 := by
    unfold madeF grown putG
    dsimp only
    rw [if_neg (by omega), if_pos (by omega)]
  have e2 : madeF (grown s u1 u2) (s.n * 2 + 1) = u2 := by
    unfold madeF grown putG
    dsimp only
    rw [if_pos (by omega)]
  have := wordsL_next s.n (madeF s) (madeF (grown s u1 u2)) (fun j hj => by
    unfold madeF grown putG
    dsimp only
    rw [if_neg (by omega), if_neg (by omega)])
  rw [e1, e2] at this
  exact this
theorem StoreAt.grows {W1 W2 : World} {X R L : Nat} {v : Value} {b c d : Nat} {s : St} (h : StoreAt W1 X R L v b c d s) (u1 u2 g cap : Nat) (hu1 : u1 < 18446744073709551616) (ho1 : u1 % 2 = 1 → u1 / 2 < s.n) (hu2 : u2 < 18446744073709551616) (ho2 : u2 % 2 = 1 → u2 / 2 < s.n) (hn : s.n + 1 ≤ 1000000)
    (hown : W2.ownsRow 0 103 2 (.slice (some ⟨g, 0, none⟩) (s.n + 1) cap) (s.n + 1) (wordsL (s.n * 2) (madeF s) ++ [.int .u64 u1, .int .u64 u2])) (hgrow : W1.grownBy W2 v.ownBlock) (hat : v.ownBlock = some g ∨ g = W1.heap.size) :
    StoreAt (W2.setCell ⟨X, 6, none⟩ (.slice (some ⟨g, 0, none⟩) (s.n + 1) cap)) X R L (.slice (some ⟨g, 0, none⟩) (s.n + 1) cap) b c d (grown s u1 u2) := by
  have lX := h.lt X (.inl rfl)
  have hgX : g ≠ X := by
    rcases hat with e | e
    · intro e'; exact h.vX (e' ▸ e)
    · omega
  have hgR : g ≠ R := by
    have := h.regs.lt
    rcases hat with e | e
    · intro e'; exact h.vR (e' ▸ e)
    · omega
  have hgL : g ≠ L := by
    have := h.globs.lt
    rcases hat with e | e
    · intro e'; exact h.vL (e' ▸ e)
    · omega
  have bX := (hgrow.block X lX (fun e => h.vX e.symm)).trans h.box
  refine ⟨by simp [World.setCell, Array.getElem?_modify, bX], (h.regs.other ((Below.heap_setCell _ _ _ _ h.xR.symm).trans (hgrow.block R h.regs.lt (fun e => h.vR e.symm)))).congr (fun j _ => ?_), (h.globs.other ((Below.heap_setCell _ _ _ _ h.xL.symm).trans (hgrow.block L h.globs.lt (fun e => h.vL e.symm)))).congr (fun j _ => ?_), ?_, h.xR, h.xL, h.rL, ?_, ?_, ?_, ?_, h.right, hn⟩
  · unfold regF grown putG
    dsimp only
    rw [if_neg (by omega), if_neg (by omega)]
  · unfold globF grown putG
    dsimp only
    rw [if_neg (by omega), if_neg (by omega)]
  · have hm : MadeAt W2 (.slice (some ⟨g, 0, none⟩) (s.n + 1) cap) (s.n + 1) (madeF (grown s u1 u2)) := by
      unfold MadeAt
      rw [grown_made]; exact hown
    exact hm.other (fun k e => Below.heap_setCell _ _ _ _ (fun e' => hgX (by
      have : g = k := by simpa [Value.ownBlock] using e
      rw [this]; exact e')))
  · simpa [Value.ownBlock] using hgX
  · simpa [Value.ownBlock] using hgR
  · simpa [Value.ownBlock] using hgL
  · have hi := h.inv
    obtain ⟨gg, n⟩ := s
    exact (hi.grow.put (k := 2) (i := n) (j := 0) (.inr (.inr ⟨.inl rfl, by omega, by omega, rfl⟩)) hu1 (fun e => Nat.lt_succ_of_lt (ho1 e))).put (k := 3) (i := n) (j := 0) (.inr (.inr ⟨.inr rfl, by omega, by omega, rfl⟩)) hu2 (fun e => Nat.lt_succ_of_lt (ho2 e))
section
variable {w : World} {X R L : Nat} {v : Value} {b c d : Nat} {s : St}
theorem cons_full (h : StoreAt w X R L v b c d s) (rs : Value) (k x y z : Int) :
    Calls Tryz.prog 45 #[.pointer (some ⟨X, 0, none⟩), rs, .agg #[.int .i64 k, .int .i64 x, .int .i64 y, .int .i64 z], .bool true] w (ActPost w X R L v b c d s 5) := by
  have HB := Lib.hid (below_new w (.cells #[.int .i64 k, .int .i64 x, .int .i64 y, .int .i64 z] 26))
  have HH := Lib.hid (h.below HB.out)
  clear h
  go_enter Tryz.func45, Tryz.ntmps45
  go_wp2_with fail
  go_ret
  exact ⟨rfl, HH.out, .of HB.out⟩
/-- What cons has at hand: the store, and the operation in a block of its own. -/
structure ConsAt (w W : World) (X R L : Nat) (v : Value) (b c d : Nat) (s : St) (k x y z : Int) : Prop where
  st : StoreAt W X R L v b c d s
  op : Arr4 W w.heap.size 26 k x y z
  old : ∀ j, foot X R L v j → j < w.heap.size
  sv : Sav (foot X R L v) w W
theorem ConsAt.on {W W' : World} {k x y z : Int} (h : ConsAt w W X R L v b c d s k x y z) (hb : Below W.heap.size W W') : ConsAt w W' X R L v b c d s k x y z := ⟨h.st.below hb, h.op.below hb, h.old, h.sv.trans (.of hb)⟩
/-- What cons has at hand behind the new cell. -/
structure ConsOn (w W : World) (X R L : Nat) (v v' : Value) (b c d : Nat) (s : St) (k x y z : Int) : Prop where
  st : StoreAt W X R L v' b c d s
  op : Arr4 W w.heap.size 26 k x y z
  nR : R ≠ w.heap.size
  own : ∀ k, v'.ownBlock = some k → v.ownBlock = some k ∨ w.heap.size ≤ k
  sv : Sav (foot X R L v) w W
theorem ConsAt.grows {W1 W2 : World} {k x y z : Int} (h : ConsAt w W1 X R L v b c d s k x y z) (u1 u2 g cap : Nat) (hu1 : u1 < 18446744073709551616) (ho1 : u1 % 2 = 1 → u1 / 2 < s.n) (hu2 : u2 < 18446744073709551616) (ho2 : u2 % 2 = 1 → u2 / 2 < s.n) (hn : s.n + 1 ≤ 1000000)
    (hown : W2.ownsRow 0 103 2 (.slice (some ⟨g, 0, none⟩) (s.n + 1) cap) (s.n + 1) (wordsL (s.n * 2) (madeF s) ++ [.int .u64 u1, .int .u64 u2])) (hgrow : W1.grownBy W2 v.ownBlock) (hat : v.ownBlock = some g ∨ g = W1.heap.size) :
    (W2.cell? ⟨X, 6, none⟩ = some v ∧ W2.frozen? ⟨X, 6, none⟩ = false) ∧ ConsOn w (W2.setCell ⟨X, 6, none⟩ (.slice (some ⟨g, 0, none⟩) (s.n + 1) cap)) X R L v (.slice (some ⟨g, 0, none⟩) (s.n + 1) cap) b c d (grown s u1 u2) k x y z := by
  have lX := h.st.lt X (.inl rfl)
  obtain ⟨_, _, _, _, _, _, c6, hf⟩ := h.st.cells
  have l1 := h.old X (.inl rfl)
  refine ⟨⟨(hgrow.cell_far ⟨X, 6, none⟩ lX (fun e => h.st.vX e.symm)).trans c6, (hgrow.frozen_far ⟨X, 6, none⟩ lX (fun e => h.st.vX e.symm)).trans (hf 6)⟩, h.st.grows u1 u2 g cap hu1 ho1 hu2 ho2 hn hown hgrow hat, ?_, ?_, ?_, ?_⟩
  · refine (h.op.other (hgrow.block _ h.op.lt (fun e => ?_))).other (Below.heap_setCell _ _ _ _ (show w.heap.size ≠ X by omega))
    have := h.old _ (.inr (.inr (.inr e.symm))); omega
  · have := h.old R (.inr (.inl rfl)); omega
  · intro k e
    obtain rfl : g = k := by simpa [Value.ownBlock] using e
    rcases hat with e | e
    · exact .inl e
    · have := h.sv.size; exact .inr (by omega)
  · have hs : Sav (foot X R L v) w W2 := h.sv.trans ⟨hgrow.os, hgrow.tape, hgrow.output, hgrow.size, fun k hk hn => hgrow.block k hk (fun e => hn (.inr (.inr (.inr e.symm))))⟩
    exact hs.set (p := ⟨X, 6, none⟩) (.inl (.inl rfl)) _
theorem ConsAt.mid {W1 W2 : World} {k x y z : Int} {A1 A2 : Nat} {u1 u2 : Value} (h : ConsAt w W1 X R L v b c d s k x y z) (hgrow : W1.grownBy W2 v.ownBlock) (hc : W1.cell? ⟨R, A1, none⟩ = some u1 ∧ W1.cell? ⟨R, A2, none⟩ = some u2) :
    W2.cell? ⟨w.heap.size, 2, none⟩ = some (.int .i64 y) ∧ W2.cell? ⟨w.heap.size, 3, none⟩ = some (.int .i64 z) ∧ W2.cell? ⟨R, A1, none⟩ = some u1 ∧ W2.cell? ⟨R, A2, none⟩ = some u2 := by
  have ho := h.op.other (hgrow.block _ h.op.lt (fun e => by have := h.old _ (.inr (.inr (.inr e.symm))); omega))
  obtain ⟨_, _, c2, c3, _⟩ := ho.cells
  exact ⟨c2, c3, (hgrow.cell_far ⟨R, A1, none⟩ h.st.regs.lt (fun e => h.st.vR e.symm)).trans hc.1, (hgrow.cell_far ⟨R, A2, none⟩ h.st.regs.lt (fun e => h.st.vR e.symm)).trans hc.2⟩
set_option maxHeartbeats 3200000 in
theorem cons_c (h : StoreAt w X R L v b c d s) (m x y z : Nat) (hm : m < b) (hx : x < c) (hy : y < c) (hz : z < c) (hn : s.n + 1 ≤ 1000000) (cc : Nat) :
    Calls Tryz.prog 45 #[.pointer (some ⟨X, 0, none⟩), .slice (some ⟨R, m * c, none⟩) c cc, .agg #[.int .i64 3, .int .i64 x, .int .i64 y, .int .i64 z], .bool false] w (DoPost w X R L v b c d ⟨putG (putG (putG s.g 2 s.n 0 (s.g 0 m y)) 3 s.n 0 (s.g 0 m z)) 0 m x (2 * s.n + 1), s.n + 1⟩ 1) := by
  obtain ⟨i3, hi3, hz0, hz1, hz2⟩ := info_parts infoCell
  have hb := below_new w (.cells #[.int .i64 3, .int .i64 x, .int .i64 y, .int .i64 z] 26)
  have HC : Hid (ConsAt w (w.alloc (.cells #[.int .i64 3, .int .i64 x, .int .i64 y, .int .i64 z] 26)).drew X R L v b c d s 3 x y z) := Lib.hid ⟨(h.below hb).drew, Arr4.new _ _ _ _ _ _, h.lt, .of hb.drew⟩
  have HI := Lib.hid h.inv
  have HG : Hid (∀ W, StoreAt W X R L v b c d s → W.cell? ⟨R, m * c + y, none⟩ = some (.int .u64 (s.g 0 m y)) ∧ W.cell? ⟨R, m * c + z, none⟩ = some (.int .u64 (s.g 0 m z))) := Lib.hid (fun W hW => ⟨hW.reg hm hy, hW.reg hm hz⟩)
  have HG2 : Hid (∀ (W : World) (v' : Value), StoreAt W X R L v' b c d (grown s (s.g 0 m y) (s.g 0 m z)) → W.cell? ⟨R, m * c + y, none⟩ = some (.int .u64 (s.g 0 m y)) ∧ W.cell? ⟨R, m * c + z, none⟩ = some (.int .u64 (s.g 0 m z))) := Lib.hid (fun W v' hW => ⟨hW.reg hm hy, hW.reg hm hz⟩)
  have HW := Lib.hid (wordOf_c s.n (by omega))
  have HE : Hid (∀ (W : World) (v' : Value), StoreAt W X R L v' b c d (grown s (s.g 0 m y) (s.g 0 m z)) → (W.cell? ⟨R, m * c + x, none⟩ = some (.int .u64 ((grown s (s.g 0 m y) (s.g 0 m z)).g 0 m x)) ∧ W.frozen? ⟨R, m * c + x, none⟩ = false) ∧ StoreAt (W.setCell ⟨R, m * c + x, none⟩ (.int .u64 ((2 * s.n + 1 : Nat) : Int))) X R L v' b c d ⟨putG (putG (putG s.g 2 s.n 0 (s.g 0 m y)) 3 s.n 0 (s.g 0 m z)) 0 m x (2 * s.n + 1), s.n + 1⟩) := Lib.hid (fun W v' hW => by
    refine ⟨⟨hW.reg hm hx, hW.regs.frozen _⟩, ?_⟩
    exact hW.setReg (m := m) (r := x) (x := 2 * s.n + 1) hm hx (hW.inv.put (.inl ⟨rfl, by omega, by omega, by omega, by omega⟩) (by omega) (fun _ => by show (2 * s.n + 1) / 2 < s.n + 1; omega)))
  obtain ⟨_, _, _, _, _, _, c6, _⟩ := h.cells
  obtain ⟨cy, cz⟩ := HG.out _ h
  have lX : X < w.heap.size := h.lt X (.inl rfl)
  have lR : R < w.heap.size := h.regs.lt
  have nX : X ≠ w.heap.size := by omega
  have nR : R ≠ w.heap.size := by omega
  have nX1 : X ≠ w.heap.size + 1 := by omega
  have nR1 : R ≠ w.heap.size + 1 := by omega
  have hgu1 : s.g 0 m y < 18446744073709551616 := h.inv.u _ _ _
  have hgu2 : s.g 0 m z < 18446744073709551616 := h.inv.u _ _ _
  clear hb h hm
  generalize hu1 : s.g 0 m y = u1 at *
  generalize hu2 : s.g 0 m z = u2 at *
  generalize hq : m * c = q at *
  go_enter Tryz.func45, Tryz.ntmps45
  go_wp2_with fail
  have HC1 := Lib.hid (HC.out.on (below_new _ (.cells #[.int .u64 u1, .int .u64 u2] 103)))
  have hnb : ((w.alloc (.cells #[.int .i64 3, .int .i64 x, .int .i64 y, .int .i64 z] 26)).drew.alloc (.cells #[.int .u64 u1, .int .u64 u2] 103)).heap[w.heap.size + 1]? = some (.cells #[.int .u64 u1, .int .u64 u2] 103) := by
    have := newBlock (w.alloc (.cells #[.int .i64 3, .int .i64 x, .int .i64 y, .int .i64 z] 26)).drew (.cells #[.int .u64 u1, .int .u64 u2] 103)
    rwa [show (w.alloc (.cells #[.int .i64 3, .int .i64 x, .int .i64 y, .int .i64 z] 26)).drew.heap.size = w.heap.size + 1 by simp] at this
  have HNB := Lib.hid (World.news_of_block hnb)
  have HZ : Hid (∀ W2 g cap, _ → _ → _ → _) := Lib.hid (fun (W2 : World) (g cap : Nat) hown hgrow hat => And.intro (HC1.out.grows (W2 := W2) u1 u2 g cap (hu1 ▸ HI.out.u 0 m y) (hu1 ▸ HI.out.odd 0 m y) (hu2 ▸ HI.out.u 0 m z) (hu2 ▸ HI.out.odd 0 m z) hn hown hgrow hat).1 (And.intro (HC1.out.mid hgrow (HG.out _ HC1.out.st)) (HC1.out.grows (W2 := W2) u1 u2 g cap (hu1 ▸ HI.out.u 0 m y) (hu1 ▸ HI.out.odd 0 m y) (hu2 ▸ HI.out.u 0 m z) (hu2 ▸ HI.out.odd 0 m z) hn hown hgrow hat).2))
  clear hnb cy cz lR nR nR1
  obtain ⟨_, _, c2, c3, _⟩ := HC.out.op.cells
  obtain ⟨cy, cz⟩ := HG.out _ HC.out.st
  refine wp_region_held_drew (S := (fun w' => w'.cell? ⟨w.heap.size, 2, none⟩ = some (.int .i64 y) ∧ w'.cell? ⟨w.heap.size, 3, none⟩ = some (.int .i64 z) ∧ w'.cell? ⟨R, q + y, none⟩ = some (.int .u64 u1) ∧ w'.cell? ⟨R, q + z, none⟩ = some (.int .u64 u2))) (by kernel_rfl) ?_ (fun hHeld => ?_)
  · exact ⟨c2, c3, cy, cz⟩
  refine wpAnyH_take (i := 0) (oi := { dst := some 10, op := Op.move (Operand.tmp 0), type := 47, pos := "ideal.go:126", after := #[], guard := none }) (v := ?vp0) rfl (by kernel_rfl) (by kernel_rfl) (by kernel_rfl) (fun _ _ _ h => h) (Or.inl ⟨by rfl, ?hyp0⟩) hHeld ?_
  case hyp0 => (intro w hSw; (try dsimp only at hSw); go_simp; (try with_reducible rfl))
  try simp only [Act.put, List.setIfInBounds_toArray, List.set_cons_zero, List.set_cons_succ]
  refine wpAnyH_take (i := 1) (oi := { dst := some 11, op := Op.move (Operand.tmp 0), type := 47, pos := "ideal.go:126", after := #[], guard := none }) (v := ?vp1) rfl (by kernel_rfl) (by kernel_rfl) (by kernel_rfl) (fun _ _ _ h => h) (Or.inl ⟨by rfl, ?hyp1⟩) hHeld ?_
  case hyp1 => (intro w hSw; (try dsimp only at hSw); go_simp; (try with_reducible rfl))
  try simp only [Act.put, List.setIfInBounds_toArray, List.set_cons_zero, List.set_cons_succ]
  refine wpAnyH_take (i := 2) (oi := { dst := some 12, op := Op.nilCheck (Operand.tmp 11), type := 0, pos := "ideal.go:126", after := #[{ on := 1, ground := Ground.data }], guard := none }) (v := ?vp2) rfl (by kernel_rfl) (by kernel_rfl) (by kernel_rfl) (fun _ _ _ h => h) (Or.inl ⟨by rfl, ?hyp2⟩) hHeld ?_
  case hyp2 => (intro w hSw; (try dsimp only at hSw); go_simp; (try with_reducible rfl))
  try simp only [Act.put, List.setIfInBounds_toArray, List.set_cons_zero, List.set_cons_succ]
  refine wpAnyH_take (i := 3) (oi := { dst := some 13, op := Op.fieldAddr 78 (Operand.tmp 12) 3, type := 0, pos := "ideal.go:126", after := #[{ on := 2, ground := Ground.data }], guard := none }) (v := ?vp3) rfl (by kernel_rfl) (by kernel_rfl) (by kernel_rfl) (fun _ _ _ h => h) (Or.inl ⟨by rfl, ?hyp3⟩) hHeld ?_
  case hyp3 => (intro w hSw; (try dsimp only at hSw); go_simp; (try with_reducible rfl))
  try simp only [Act.put, List.setIfInBounds_toArray, List.set_cons_zero, List.set_cons_succ]
  refine wpAnyH_take (i := 5) (oi := { dst := some 15, op := Op.move (Operand.tmp 1), type := 24, pos := "ideal.go:126", after := #[], guard := none }) (v := ?vp5) rfl (by kernel_rfl) (by kernel_rfl) (by kernel_rfl) (fun _ _ _ h => h) (Or.inl ⟨by rfl, ?hyp5⟩) hHeld ?_
  case hyp5 => (intro w hSw; (try dsimp only at hSw); go_simp; (try with_reducible rfl))
  try simp only [Act.put, List.setIfInBounds_toArray, List.set_cons_zero, List.set_cons_succ]
  refine wpAnyH_take (i := 6) (oi := { dst := some 16, op := Op.fieldAddr 26 (Operand.tmp 6) 2, type := 0, pos := "ideal.go:126", after := #[], guard := none }) (v := ?vp6) rfl (by kernel_rfl) (by kernel_rfl) (by kernel_rfl) (fun _ _ _ h => h) (Or.inl ⟨by rfl, ?hyp6⟩) hHeld ?_
  case hyp6 => (intro w hSw; (try dsimp only at hSw); go_simp; (try with_reducible rfl))
  try simp only [Act.put, List.setIfInBounds_toArray, List.set_cons_zero, List.set_cons_succ]
  refine wpAnyH_take (i := 7) (oi := { dst := some 17, op := Op.load 3 (Operand.tmp 16), type := 3, pos := "ideal.go:126", after := #[{ on := 6, ground := Ground.data }], guard := none }) (v := ?vp7) rfl (by kernel_rfl) (by kernel_rfl) (by kernel_rfl) (fun _ _ _ h => h) (Or.inl ⟨by rfl, ?hyp7⟩) hHeld ?_
  case hyp7 => (intro w hSw; (try dsimp only at hSw); go_simp; (try with_reducible rfl))
  try simp only [Act.put, List.setIfInBounds_toArray, List.set_cons_zero, List.set_cons_succ]
  refine wpAnyH_take (i := 8) (oi := { dst := some 18, op := Op.indexAddr 24 (Operand.tmp 15) (Operand.tmp 17), type := 0, pos := "ideal.go:126", after := #[{ on := 5, ground := Ground.data }, { on := 7, ground := Ground.data }], guard := none }) (v := ?vp8) rfl (by kernel_rfl) (by kernel_rfl) (by kernel_rfl) (fun _ _ _ h => h) (Or.inl ⟨by rfl, ?hyp8⟩) hHeld ?_
  case hyp8 => (intro w hSw; (try dsimp only at hSw); go_simp; (try with_reducible rfl))
  try simp only [Act.put, List.setIfInBounds_toArray, List.set_cons_zero, List.set_cons_succ]
  refine wpAnyH_take (i := 9) (oi := { dst := some 19, op := Op.load 28 (Operand.tmp 18), type := 28, pos := "ideal.go:126", after := #[{ on := 8, ground := Ground.data }], guard := none }) (v := ?vp9) rfl (by kernel_rfl) (by kernel_rfl) (by kernel_rfl) (fun _ _ _ h => h) (Or.inl ⟨by rfl, ?hyp9⟩) hHeld ?_
  case hyp9 => (intro w hSw; (try dsimp only at hSw); go_simp; (try with_reducible rfl))
  try simp only [Act.put, List.setIfInBounds_toArray, List.set_cons_zero, List.set_cons_succ]
  refine wpAnyH_take (i := 10) (oi := { dst := some 20, op := Op.move (Operand.tmp 1), type := 24, pos := "ideal.go:126", after := #[], guard := none }) (v := ?vp10) rfl (by kernel_rfl) (by kernel_rfl) (by kernel_rfl) (fun _ _ _ h => h) (Or.inl ⟨by rfl, ?hyp10⟩) hHeld ?_
  case hyp10 => (intro w hSw; (try dsimp only at hSw); go_simp; (try with_reducible rfl))
  try simp only [Act.put, List.setIfInBounds_toArray, List.set_cons_zero, List.set_cons_succ]
  refine wpAnyH_take (i := 11) (oi := { dst := some 21, op := Op.fieldAddr 26 (Operand.tmp 6) 3, type := 0, pos := "ideal.go:126", after := #[], guard := none }) (v := ?vp11) rfl (by kernel_rfl) (by kernel_rfl) (by kernel_rfl) (fun _ _ _ h => h) (Or.inl ⟨by rfl, ?hyp11⟩) hHeld ?_
  case hyp11 => (intro w hSw; (try dsimp only at hSw); go_simp; (try with_reducible rfl))
  try simp only [Act.put, List.setIfInBounds_toArray, List.set_cons_zero, List.set_cons_succ]
  refine wpAnyH_take (i := 12) (oi := { dst := some 22, op := Op.load 3 (Operand.tmp 21), type := 3, pos := "ideal.go:126", after := #[{ on := 11, ground := Ground.data }], guard := none }) (v := ?vp12) rfl (by kernel_rfl) (by kernel_rfl) (by kernel_rfl) (fun _ _ _ h => h) (Or.inl ⟨by rfl, ?hyp12⟩) hHeld ?_
  case hyp12 => (intro w hSw; (try dsimp only at hSw); go_simp; (try with_reducible rfl))
  try simp only [Act.put, List.setIfInBounds_toArray, List.set_cons_zero, List.set_cons_succ]
  refine wpAnyH_take (i := 13) (oi := { dst := some 23, op := Op.indexAddr 24 (Operand.tmp 20) (Operand.tmp 22), type := 0, pos := "ideal.go:126", after := #[{ on := 10, ground := Ground.data }, { on := 12, ground := Ground.data }], guard := none }) (v := ?vp13) rfl (by kernel_rfl) (by kernel_rfl) (by kernel_rfl) (fun _ _ _ h => h) (Or.inl ⟨by rfl, ?hyp13⟩) hHeld ?_
  case hyp13 => (intro w hSw; (try dsimp only at hSw); go_simp; (try with_reducible rfl))
  try simp only [Act.put, List.setIfInBounds_toArray, List.set_cons_zero, List.set_cons_succ]
  refine wpAnyH_take (i := 14) (oi := { dst := some 24, op := Op.load 28 (Operand.tmp 23), type := 28, pos := "ideal.go:126", after := #[{ on := 13, ground := Ground.data }], guard := none }) (v := ?vp14) rfl (by kernel_rfl) (by kernel_rfl) (by kernel_rfl) (fun _ _ _ h => h) (Or.inl ⟨by rfl, ?hyp14⟩) hHeld ?_
  case hyp14 => (intro w hSw; (try dsimp only at hSw); go_simp; (try with_reducible rfl))
  try simp only [Act.put, List.setIfInBounds_toArray, List.set_cons_zero, List.set_cons_succ]
  refine wpAnyH_take (i := 15) (oi := { dst := some 25, op := Op.build 101 #[(0, Operand.tmp 19), (1, Operand.tmp 24)], type := 101, pos := "ideal.go:126", after := #[{ on := 9, ground := Ground.data }, { on := 14, ground := Ground.data }], guard := none }) (v := ?vp15) rfl (by kernel_rfl) (by kernel_rfl) (by kernel_rfl) (fun _ _ _ h => h) (Or.inl ⟨by rfl, ?hyp15⟩) hHeld ?_
  case hyp15 => (intro w hSw; (try dsimp only at hSw); go_simp; (try with_reducible rfl))
  try simp only [Act.put, List.setIfInBounds_toArray, List.set_cons_zero, List.set_cons_succ]
  refine wpAnyH_take (i := 16) (oi := { dst := some 26, op := Op.build 103 #[(0, Operand.tmp 25)], type := 103, pos := "ideal.go:126", after := #[{ on := 15, ground := Ground.data }], guard := none }) (v := ?vp16) rfl (by kernel_rfl) (by kernel_rfl) (by kernel_rfl) (fun _ _ _ h => h) (Or.inl ⟨by rfl, ?hyp16⟩) hHeld ?_
  case hyp16 => (intro w hSw; (try dsimp only at hSw); go_simp; (try with_reducible rfl))
  try simp only [Act.put, List.setIfInBounds_toArray, List.set_cons_zero, List.set_cons_succ]
  refine wpAnyH_ready (rs := [4, 17]) (by kernel_rfl) (by simp) ?_
  refine AllReadyH.cons (o := { dst := some 14, op := Op.load 76 (Operand.tmp 13), type := 76, pos := "ideal.go:126", after := #[{ on := 3, ground := Ground.data }], guard := none }) rfl (fun K hK => ?_) ?_
  · go_simp
    refine hK.out _ _ ?_ (fun hHeld => ?_)
    · exact ⟨c2, c3, cy, cz⟩
    clear hK K
    try simp only [Act.put, List.setIfInBounds_toArray, List.set_cons_zero, List.set_cons_succ]
    refine wpAnyH_ready (rs := [17]) (by kernel_rfl) (by simp) ?_
    refine AllReadyH.cons (o := { dst := some 27, op := Op.buildSlice 76 1 #[(0, Operand.tmp 26)], type := 76, pos := "ideal.go:126", after := #[{ on := 16, ground := Ground.data }], guard := none }) rfl (fun K hK => ?_) AllReadyH.nil
    go_simp
    clear c2 c3 cy cz hHeld
    obtain ⟨_, _, c2, c3, _⟩ := HC1.out.op.cells
    obtain ⟨cy, cz⟩ := HG.out _ HC1.out.st
    refine hK.out _ _ ?_ (fun hHeld => ?_)
    · exact ⟨c2, c3, cy, cz⟩
    clear hK K
    try simp only [Act.put, List.setIfInBounds_toArray, List.set_cons_zero, List.set_cons_succ]
    refine wpAnyH_ready (rs := [18]) (by kernel_rfl) (by simp) ?_
    refine AllReadyH.cons (o := { dst := some 28, op := Op.call { callee := Callee.builtin Builtin.append, args := #[Operand.tmp 14, Operand.tmp 27], argTypes := #[76, 76] }, type := 76, pos := "ideal.go:126", after := #[{ on := 4, ground := Ground.data }, { on := 17, ground := Ground.data }], guard := none }) rfl (fun K hK => ?_) AllReadyH.nil
    refine step_append_lies _ rfl (.tmp 14) (.tmp 27) 76 rfl 0 103 i3 _ 2 16 Tryz.underlying76 hi3 hz0 hz1 hz2 rfl (by omega) v s.n _ (by simp [Act.eval]) HC1.out.st.made ⟨w.heap.size + 1, 0, none⟩ 1 1 [.int .u64 u1, .int .u64 u2] (by simp [Act.eval]) (by rfl) HNB.out (by simp [Value.oneCell']) (by omega) (by unfold maxLen; omega) (by omega) (Nat.zero_le _) _ rfl ?_
    intro g cap W2 hown hgrow hat hlt
    have HK := Lib.hid (HZ.out W2 g cap hown hgrow hat)
    clear hown hgrow hat hlt c6 lX nX nX1
    clear c2 c3 cy cz hHeld
    obtain ⟨⟨c6', f6'⟩, _⟩ := HK.out
    obtain ⟨c2, c3, cy, cz⟩ := HK.out.2.1
    refine hK.out _ _ ?_ (fun hHeld => ?_)
    · exact ⟨c2, c3, cy, cz⟩
    clear hK K
    try simp only [Act.put, List.setIfInBounds_toArray, List.set_cons_zero, List.set_cons_succ]
    refine wpAnyH_take (i := 19) (oi := { dst := some 29, op := Op.nilCheck (Operand.tmp 10), type := 0, pos := "ideal.go:126", after := #[{ on := 0, ground := Ground.data }, { on := 0, ground := Ground.phase }, { on := 1, ground := Ground.phase }, { on := 2, ground := Ground.phase }, { on := 3, ground := Ground.phase }, { on := 4, ground := Ground.phase }, { on := 5, ground := Ground.phase }, { on := 6, ground := Ground.phase }, { on := 7, ground := Ground.phase }, { on := 8, ground := Ground.phase }, { on := 9, ground := Ground.phase }, { on := 10, ground := Ground.phase }, { on := 11, ground := Ground.phase }, { on := 12, ground := Ground.phase }, { on := 13, ground := Ground.phase }, { on := 14, ground := Ground.phase }, { on := 15, ground := Ground.phase }, { on := 16, ground := Ground.phase }, { on := 17, ground := Ground.phase }, { on := 18, ground := Ground.phase }], guard := none }) (v := ?vx19) rfl (by kernel_rfl) (by kernel_rfl) (by kernel_rfl) (fun _ _ _ h => h) (Or.inl ⟨by rfl, ?hyx19⟩) hHeld ?_
    case hyx19 => (intro w hSw; (try dsimp only at hSw); go_simp; (try with_reducible rfl))
    try simp only [Act.put, List.setIfInBounds_toArray, List.set_cons_zero, List.set_cons_succ]
    refine wpAnyH_take (i := 20) (oi := { dst := some 30, op := Op.fieldAddr 78 (Operand.tmp 29) 3, type := 0, pos := "ideal.go:126", after := #[{ on := 19, ground := Ground.data }, { on := 0, ground := Ground.phase }, { on := 1, ground := Ground.phase }, { on := 2, ground := Ground.phase }, { on := 3, ground := Ground.phase }, { on := 4, ground := Ground.phase }, { on := 5, ground := Ground.phase }, { on := 6, ground := Ground.phase }, { on := 7, ground := Ground.phase }, { on := 8, ground := Ground.phase }, { on := 9, ground := Ground.phase }, { on := 10, ground := Ground.phase }, { on := 11, ground := Ground.phase }, { on := 12, ground := Ground.phase }, { on := 13, ground := Ground.phase }, { on := 14, ground := Ground.phase }, { on := 15, ground := Ground.phase }, { on := 16, ground := Ground.phase }, { on := 17, ground := Ground.phase }, { on := 18, ground := Ground.phase }], guard := none }) (v := ?vx20) rfl (by kernel_rfl) (by kernel_rfl) (by kernel_rfl) (fun _ _ _ h => h) (Or.inl ⟨by rfl, ?hyx20⟩) hHeld ?_
    case hyx20 => (intro w hSw; (try dsimp only at hSw); go_simp; (try with_reducible rfl))
    try simp only [Act.put, List.setIfInBounds_toArray, List.set_cons_zero, List.set_cons_succ]
    refine wpAnyH_ready (rs := [21]) (by kernel_rfl) (by simp) ?_
    refine AllReadyH.cons (o := { dst := none, op := Op.store 76 (Operand.tmp 30) (Operand.tmp 28), type := 0, pos := "ideal.go:126", after := #[{ on := 20, ground := Ground.data }, { on := 18, ground := Ground.data }, { on := 18, ground := Ground.chain }, { on := 0, ground := Ground.phase }, { on := 1, ground := Ground.phase }, { on := 2, ground := Ground.phase }, { on := 3, ground := Ground.phase }, { on := 4, ground := Ground.phase }, { on := 5, ground := Ground.phase }, { on := 6, ground := Ground.phase }, { on := 7, ground := Ground.phase }, { on := 8, ground := Ground.phase }, { on := 9, ground := Ground.phase }, { on := 10, ground := Ground.phase }, { on := 11, ground := Ground.phase }, { on := 12, ground := Ground.phase }, { on := 13, ground := Ground.phase }, { on := 14, ground := Ground.phase }, { on := 15, ground := Ground.phase }, { on := 16, ground := Ground.phase }, { on := 17, ground := Ground.phase }, { on := 18, ground := Ground.phase }], guard := none }) rfl (fun K hK => ?_) AllReadyH.nil
    clear c2 c3 cy cz hHeld
    go_simp
    have HK2 := Lib.hid HK.out.2.2
    clear HK c6' f6'
    generalize W2.setCell ⟨X, 6, none⟩ (.slice (some ⟨g, 0, none⟩) (s.n + 1) cap) = W3 at *
    obtain ⟨_, _, c2, c3, _⟩ := HK2.out.op.cells
    obtain ⟨cy, cz⟩ := HG2.out _ _ HK2.out.st
    refine hK.out _ _ ?_ (fun hHeld => ?_)
    · exact ⟨c2, c3, cy, cz⟩
    clear hK K
    try simp only [Act.put, List.setIfInBounds_toArray, List.set_cons_zero, List.set_cons_succ]
    refine wpAnyH_done (by kernel_rfl) ?_ _
    clear hHeld c2 c3 cy cz
    obtain ⟨_, c1, _, _, _⟩ := HK2.out.op.cells
    obtain ⟨_, _, _, _, _, _, c6, _⟩ := HK2.out.st.cells
    obtain ⟨cx, fx⟩ := (HE.out W3 _ HK2.out.st).1
    have HE1 := Lib.hid (HE.out W3 _ HK2.out.st).2
    clear HE HG HG2 HZ HNB HC1 HC HI
    have hwn : IntKind.i64.wrap (s.n : Int) = (s.n : Int) := IntWalk.i64_in _ (by omega)
    go_wp2_with fail
    go_region_with (go_at_call 76; refine (HW.out _).mono ?_; rintro e w' ⟨rfl, rfl⟩)
    all_goals go_wp2_with fail
    all_goals go_ret
    all_goals exact ⟨_, rfl, HE1.out.drew, HK2.out.own, (HK2.out.sv.set (p := ⟨R, q + x, none⟩) (.inl (.inr (.inl rfl))) _).drew⟩
  · refine AllReadyH.cons (o := { dst := some 27, op := Op.buildSlice 76 1 #[(0, Operand.tmp 26)], type := 76, pos := "ideal.go:126", after := #[{ on := 16, ground := Ground.data }], guard := none }) rfl (fun K hK => ?_) AllReadyH.nil
    go_simp
    clear c2 c3 cy cz hHeld
    obtain ⟨_, _, c2, c3, _⟩ := HC1.out.op.cells
    obtain ⟨cy, cz⟩ := HG.out _ HC1.out.st
    refine hK.out _ _ ?_ (fun hHeld => ?_)
    · exact ⟨c2, c3, cy, cz⟩
    clear hK K
    try simp only [Act.put, List.setIfInBounds_toArray, List.set_cons_zero, List.set_cons_succ]
    refine wpAnyH_ready (rs := [4]) (by kernel_rfl) (by simp) ?_
    refine AllReadyH.cons (o := { dst := some 14, op := Op.load 76 (Operand.tmp 13), type := 76, pos := "ideal.go:126", after := #[{ on := 3, ground := Ground.data }], guard := none }) rfl (fun K hK => ?_) AllReadyH.nil
    go_simp
    refine hK.out _ _ ?_ (fun hHeld => ?_)
    · exact ⟨c2, c3, cy, cz⟩
    clear hK K
    try simp only [Act.put, List.setIfInBounds_toArray, List.set_cons_zero, List.set_cons_succ]
    refine wpAnyH_ready (rs := [18]) (by kernel_rfl) (by simp) ?_
    refine AllReadyH.cons (o := { dst := some 28, op := Op.call { callee := Callee.builtin Builtin.append, args := #[Operand.tmp 14, Operand.tmp 27], argTypes := #[76, 76] }, type := 76, pos := "ideal.go:126", after := #[{ on := 4, ground := Ground.data }, { on := 17, ground := Ground.data }], guard := none }) rfl (fun K hK => ?_) AllReadyH.nil
    refine step_append_lies _ rfl (.tmp 14) (.tmp 27) 76 rfl 0 103 i3 _ 2 16 Tryz.underlying76 hi3 hz0 hz1 hz2 rfl (by omega) v s.n _ (by simp [Act.eval]) HC1.out.st.made ⟨w.heap.size + 1, 0, none⟩ 1 1 [.int .u64 u1, .int .u64 u2] (by simp [Act.eval]) (by rfl) HNB.out (by simp [Value.oneCell']) (by omega) (by unfold maxLen; omega) (by omega) (Nat.zero_le _) _ rfl ?_
    intro g cap W2 hown hgrow hat hlt
    have HK := Lib.hid (HZ.out W2 g cap hown hgrow hat)
    clear hown hgrow hat hlt c6 lX nX nX1
    clear c2 c3 cy cz hHeld
    obtain ⟨⟨c6', f6'⟩, _⟩ := HK.out
    obtain ⟨c2, c3, cy, cz⟩ := HK.out.2.1
    refine hK.out _ _ ?_ (fun hHeld => ?_)
    · exact ⟨c2, c3, cy, cz⟩
    clear hK K
    try simp only [Act.put, List.setIfInBounds_toArray, List.set_cons_zero, List.set_cons_succ]
    refine wpAnyH_take (i := 19) (oi := { dst := some 29, op := Op.nilCheck (Operand.tmp 10), type := 0, pos := "ideal.go:126", after := #[{ on := 0, ground := Ground.data }, { on := 0, ground := Ground.phase }, { on := 1, ground := Ground.phase }, { on := 2, ground := Ground.phase }, { on := 3, ground := Ground.phase }, { on := 4, ground := Ground.phase }, { on := 5, ground := Ground.phase }, { on := 6, ground := Ground.phase }, { on := 7, ground := Ground.phase }, { on := 8, ground := Ground.phase }, { on := 9, ground := Ground.phase }, { on := 10, ground := Ground.phase }, { on := 11, ground := Ground.phase }, { on := 12, ground := Ground.phase }, { on := 13, ground := Ground.phase }, { on := 14, ground := Ground.phase }, { on := 15, ground := Ground.phase }, { on := 16, ground := Ground.phase }, { on := 17, ground := Ground.phase }, { on := 18, ground := Ground.phase }], guard := none }) (v := ?vy19) rfl (by kernel_rfl) (by kernel_rfl) (by kernel_rfl) (fun _ _ _ h => h) (Or.inl ⟨by rfl, ?hyy19⟩) hHeld ?_
    case hyy19 => (intro w hSw; (try dsimp only at hSw); go_simp; (try with_reducible rfl))
    try simp only [Act.put, List.setIfInBounds_toArray, List.set_cons_zero, List.set_cons_succ]
    refine wpAnyH_take (i := 20) (oi := { dst := some 30, op := Op.fieldAddr 78 (Operand.tmp 29) 3, type := 0, pos := "ideal.go:126", after := #[{ on := 19, ground := Ground.data }, { on := 0, ground := Ground.phase }, { on := 1, ground := Ground.phase }, { on := 2, ground := Ground.phase }, { on := 3, ground := Ground.phase }, { on := 4, ground := Ground.phase }, { on := 5, ground := Ground.phase }, { on := 6, ground := Ground.phase }, { on := 7, ground := Ground.phase }, { on := 8, ground := Ground.phase }, { on := 9, ground := Ground.phase }, { on := 10, ground := Ground.phase }, { on := 11, ground := Ground.phase }, { on := 12, ground := Ground.phase }, { on := 13, ground := Ground.phase }, { on := 14, ground := Ground.phase }, { on := 15, ground := Ground.phase }, { on := 16, ground := Ground.phase }, { on := 17, ground := Ground.phase }, { on := 18, ground := Ground.phase }], guard := none }) (v := ?vy20) rfl (by kernel_rfl) (by kernel_rfl) (by kernel_rfl) (fun _ _ _ h => h) (Or.inl ⟨by rfl, ?hyy20⟩) hHeld ?_
    case hyy20 => (intro w hSw; (try dsimp only at hSw); go_simp; (try with_reducible rfl))
    try simp only [Act.put, List.setIfInBounds_toArray, List.set_cons_zero, List.set_cons_succ]
    refine wpAnyH_ready (rs := [21]) (by kernel_rfl) (by simp) ?_
    refine AllReadyH.cons (o := { dst := none, op := Op.store 76 (Operand.tmp 30) (Operand.tmp 28), type := 0, pos := "ideal.go:126", after := #[{ on := 20, ground := Ground.data }, { on := 18, ground := Ground.data }, { on := 18, ground := Ground.chain }, { on := 0, ground := Ground.phase }, { on := 1, ground := Ground.phase }, { on := 2, ground := Ground.phase }, { on := 3, ground := Ground.phase }, { on := 4, ground := Ground.phase }, { on := 5, ground := Ground.phase }, { on := 6, ground := Ground.phase }, { on := 7, ground := Ground.phase }, { on := 8, ground := Ground.phase }, { on := 9, ground := Ground.phase }, { on := 10, ground := Ground.phase }, { on := 11, ground := Ground.phase }, { on := 12, ground := Ground.phase }, { on := 13, ground := Ground.phase }, { on := 14, ground := Ground.phase }, { on := 15, ground := Ground.phase }, { on := 16, ground := Ground.phase }, { on := 17, ground := Ground.phase }, { on := 18, ground := Ground.phase }], guard := none }) rfl (fun K hK => ?_) AllReadyH.nil
    clear c2 c3 cy cz hHeld
    go_simp
    have HK2 := Lib.hid HK.out.2.2
    clear HK c6' f6'
    generalize W2.setCell ⟨X, 6, none⟩ (.slice (some ⟨g, 0, none⟩) (s.n + 1) cap) = W3 at *
    obtain ⟨_, _, c2, c3, _⟩ := HK2.out.op.cells
    obtain ⟨cy, cz⟩ := HG2.out _ _ HK2.out.st
    refine hK.out _ _ ?_ (fun hHeld => ?_)
    · exact ⟨c2, c3, cy, cz⟩
    clear hK K
    try simp only [Act.put, List.setIfInBounds_toArray, List.set_cons_zero, List.set_cons_succ]
    refine wpAnyH_done (by kernel_rfl) ?_ _
    clear hHeld c2 c3 cy cz
    obtain ⟨_, c1, _, _, _⟩ := HK2.out.op.cells
    obtain ⟨_, _, _, _, _, _, c6, _⟩ := HK2.out.st.cells
    obtain ⟨cx, fx⟩ := (HE.out W3 _ HK2.out.st).1
    have HE1 := Lib.hid (HE.out W3 _ HK2.out.st).2
    clear HE HG HG2 HZ HNB HC1 HC HI
    have hwn : IntKind.i64.wrap (s.n : Int) = (s.n : Int) := IntWalk.i64_in _ (by omega)
    go_wp2_with fail
    go_region_with (go_at_call 76; refine (HW.out _).mono ?_; rintro e w' ⟨rfl, rfl⟩)
    all_goals go_wp2_with fail
    all_goals go_ret
    all_goals exact ⟨_, rfl, HE1.out.drew, HK2.out.own, (HK2.out.sv.set (p := ⟨R, q + x, none⟩) (.inl (.inr (.inl rfl))) _).drew⟩
end
end Go.Proofs.YtbpkdihonemogaaGreatDoor.Il
