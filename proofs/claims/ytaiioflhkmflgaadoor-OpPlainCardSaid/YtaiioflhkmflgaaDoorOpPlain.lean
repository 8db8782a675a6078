/- OpPlain: it answers true for every configuration, every operation and every number (the law of P8.1, P8.2 and P8.3 without the document's answer), in whatever memory in which the listed variables read as their texts lay them. -/
import Derived.Test.YtaiioflhkmflgaaDoorOpChecks
import Derived.Maps.OwnIn
import Derived.Sort.CutIn
namespace Go.Proofs.YtaiioflhkmflgaaDoor
open Go Go.RowKit Go.Shelf
attribute [local go_sem] Oper.semAt_some
set_option maxRecDepth 100000

/-- The number in the place of one that the kind hasn't. -/
def altB (k y n : Int) : Int := if codeF k.toNat 1 = 0 then n else y
def altC (k z n : Int) : Int := if codeF k.toNat 2 = 0 then n else z
theorem nums_alt (k x y z n : Int) : nums k x (altB k y n) (altC k z n) = nums k x y z := by
  by_cases hk : okK k
  · obtain ⟨m, rfl, h1, h2⟩ := hk.nat
    obtain rfl | rfl | rfl | rfl | rfl | rfl | rfl | rfl | rfl | rfl | rfl := kind_cases h1 h2
    all_goals rfl
  · rw [nums_no hk, nums_no hk]
theorem alt_same (a b c d k x y z n : Int) : checkF a b c d k x (altB k y n) (altC k z n) = checkF a b c d k x y z ∧ textF k x (altB k y n) (altC k z n) = textF k x y z ∧ regsL k x (altB k y n) (altC k z n) = regsL k x y z := by
  refine ⟨?_, ?_, ?_⟩
  · unfold checkF; rw [nums_alt]
  · have h : okT k x (altB k y n) (altC k z n) ↔ okT k x y z := by unfold okT; rw [nums_alt]
    have hl : textL k x (altB k y n) (altC k z n) = textL k x y z := by unfold textL; rw [nums_alt]
    unfold textF
    by_cases hk : okT k x y z
    · rw [if_pos hk, if_pos (h.2 hk), hl]
    · rw [if_neg hk, if_neg (fun e => hk (h.1 e))]
  · unfold regsL; rw [nums_alt]
theorem altB_in {k y n : Int} (hy : inI y) (hn : inI n) : inI (altB k y n) := by unfold altB; split <;> assumption
theorem altC_in {k z n : Int} (hz : inI z) (hn : inI n) : inI (altC k z n) := by unfold altC; split <;> assumption
/-- The law's own memory ahead of the loops. -/
structure PlnsAt (w W : World) (Y : Nat) (a b c d k x y z y' z' : Int) : Prop where
  cfg : Arr4 W w.heap.size 23 a b c d
  op : Arr4 W (w.heap.size + 1) 25 k x y z
  cpy : Arr4 W Y 25 k x y' z'
  old : Below w.heap.size w W
  low : w.heap.size + 2 ≤ Y
theorem PlnsAt.on {w W W' : World} {Y : Nat} {a b c d k x y z y' z' : Int} (h : PlnsAt w W Y a b c d k x y z y' z') (hb : Below W.heap.size W W') : PlnsAt w W' Y a b c d k x y z y' z' := ⟨h.cfg.below hb, h.op.below hb, h.cpy.below hb, belowOn h.old hb, h.low⟩
theorem PlnsAt.setB {w W : World} {Y : Nat} {a b c d k x y z y' z' : Int} (h : PlnsAt w W Y a b c d k x y z y' z') (u : Int) : PlnsAt w (W.setCell ⟨Y, 2, none⟩ (.int .i64 u)) Y a b c d k x y z u z' :=
  ⟨h.cfg.other (Below.heap_setCell W _ _ _ (by have := h.low; simp; omega)), h.op.other (Below.heap_setCell W _ _ _ (by have := h.low; simp; omega)), (h.cpy.set u).2.2.1, h.old.setCell (p := ⟨Y, 2, none⟩) (by have := h.low; simp only; omega) _, h.low⟩
theorem PlnsAt.setC {w W : World} {Y : Nat} {a b c d k x y z y' z' : Int} (h : PlnsAt w W Y a b c d k x y z y' z') (u : Int) : PlnsAt w (W.setCell ⟨Y, 3, none⟩ (.int .i64 u)) Y a b c d k x y z y' u :=
  ⟨h.cfg.other (Below.heap_setCell W _ _ _ (by have := h.low; simp; omega)), h.op.other (Below.heap_setCell W _ _ _ (by have := h.low; simp; omega)), (h.cpy.set u).2.2.2, h.old.setCell (p := ⟨Y, 3, none⟩) (by have := h.low; simp only; omega) _, h.low⟩
/-- A slice of numbers that grows in the cell A; all else of what was there at first lies as it lay. -/
structure GrowAt (w W0 W : World) (A : Nat) (l : List Int) : Prop where
  keep : ∀ q, q < W0.heap.size → q ≠ A → W.heap[q]? = W0.heap[q]?
  size : W0.heap.size ≤ W.heap.size
  old : Below w.heap.size w W
  row : ∃ v, One W A v ∧ W.ownsRow W0.heap.size 3 1 v l.length (l.map intV)
theorem GrowAt.own {w W0 A A' : World} {row : Option Nat} {B : Nat} {l : List Int} (hw : w.heap.size ≤ W0.heap.size) (h : GrowAt w W0 A B l) (hg : A.grownBy A' row) (hr : ∀ r, row = some r → W0.heap.size ≤ r ∧ ∃ o : Obj, A.heap[r]? = some o ∧ o.isCells = false) : GrowAt w W0 A' B l := by
  have hr' : ∀ r, row = some r → ∃ o : Obj, A.heap[r]? = some o ∧ o.isCells = false := fun r e => (hr r e).2
  obtain ⟨v, h1, h2⟩ := h.row
  exact ⟨fun q hq hne => (hg.block q (by have := h.size; omega) (fun e => by have := (hr q e.symm).1; omega)).trans (h.keep q hq hne), Nat.le_trans h.size hg.size, h.old.grown hg h.old.size (fun r e => by have := (hr r e).1; omega), v, h1.own hg hr', row_own h2 hg hr'⟩
/-- One number more. -/
theorem GrowAt.add {w W0 W W2 : World} {A : Nat} {l : List Int} {v v' : Value} {u : Int} (hA : A < W0.heap.size) (hAw : w.heap.size ≤ A) (h : GrowAt w W0 W A l) (h1 : One W A v) (h2 : W.ownsRow W0.heap.size 3 1 v l.length (l.map intV))
    (hown : W2.ownsRow W0.heap.size 3 1 v' (l.length + 1) (l.map intV ++ [.int .i64 u])) (hg : (W.alloc (.cells #[.int .i64 u] 3)).grownBy W2 v.ownBlock) :
    (W2.cell? ⟨A, 0, none⟩ = some v ∧ W2.frozen? ⟨A, 0, none⟩ = false) ∧ GrowAt w W0 (W2.setCell ⟨A, 0, none⟩ v') A (l ++ [u]) ∧ ∀ B, W0.heap.size ≤ B → KeepsTop 3 B W (W2.setCell ⟨A, 0, none⟩ v') := by
  have b1 := below_new W (.cells #[.int .i64 u] 3)
  have hlow : ∀ q, v.ownBlock = some q → W0.heap.size ≤ q := fun q e => (h2.lt q e).1
  have hsz := h.size
  have key : ∀ q, q < W0.heap.size → W2.heap[q]? = W.heap[q]? := fun q hq =>
    (hg.block q (by simp; omega) (fun e => by have := hlow q e.symm; omega)).trans (b1.block q (by omega))
  have hc : W2.cell? ⟨A, 0, none⟩ = some v := (World.cell?_of_block (key A hA)).trans h1.1
  have hf : W2.frozen? ⟨A, 0, none⟩ = false := (World.frozen?_of_block (key A hA)).trans h1.2
  have hB2 : Below w.heap.size w W2 := (belowOn h.old b1).grown hg (by have := h.old.size; simp; omega) (fun q e => by have := hlow q e; omega)
  have hs2 : W.heap.size ≤ W2.heap.size := by have := hg.size; simp at this; omega
  refine ⟨⟨hc, hf⟩, ⟨fun q hq hne => ?_, ?_, hB2.setCell (p := ⟨A, 0, none⟩) hAw _, v', One.set ⟨hc, hf⟩ v', ?_⟩, fun B hB => ?_⟩
  · exact (Below.heap_setCell W2 ⟨A, 0, none⟩ v' q (by simpa using hne)).trans ((key q hq).trans (h.keep q hq hne))
  · simp [World.setCell]; omega
  · rw [List.length_append, List.map_append]
    refine World.ownsRow.kept hown (grownBy_setCell' W2 A _) ?_
    cases hob : v'.ownBlock with
    | none => exact .inl rfl
    | some g => exact .inr (fun e => by cases e; have := (hown.lt _ hob).1; omega)
  · exact ((KeepsTop.of_below b1).trans (KeepsTop.of_row hg (row_cells (h2.alloc _)))).trans (KeepsTop.of_grownBy (grownBy_setCell' W2 A v') (fun j e => by cases e; omega))
/-- Both slices, which hold the same numbers. -/
structure CmpAt (w W : World) (A D1 D2 : Nat) (rl : List Int) : Prop where
  old : Below w.heap.size w W
  d1 : W.heap[D1]? = some (.deferred (some []))
  d2 : W.heap[D2]? = some (.deferred (some []))
  both : ∃ p1 c1 p2 c2, W.cell? ⟨A, 0, none⟩ = some (.slice p1 rl.length c1) ∧ W.cell? ⟨A + 1, 0, none⟩ = some (.slice p2 rl.length c2) ∧
    ∀ i u, rl[i]? = some u → ∃ g1 g2, p1 = some ⟨g1, 0, none⟩ ∧ p2 = some ⟨g2, 0, none⟩ ∧ W.cell? ⟨g1, i, none⟩ = some (.int .i64 u) ∧ W.cell? ⟨g2, i, none⟩ = some (.int .i64 u)
theorem CmpAt.drew {w W : World} {A D1 D2 : Nat} {rl : List Int} (h : CmpAt w W A D1 D2 rl) : CmpAt w W.drew A D1 D2 rl := ⟨h.old.drew, h.d1, h.d2, h.both⟩
theorem row_get {W : World} {base : Nat} {p : Option Addr} {cap : Nat} {rl : List Int} (h : W.ownsRow base 3 1 (.slice p rl.length cap) rl.length (rl.map intV)) {i : Nat} {u : Int} (hu : rl[i]? = some u) : ∃ g, p = some ⟨g, 0, none⟩ ∧ g < W.heap.size ∧ W.cell? ⟨g, i, none⟩ = some (.int .i64 u) := by
  have hi := (List.getElem?_eq_some_iff.1 hu).1
  obtain ⟨g, cap', e, hg, hgl⟩ := h.form (by omega)
  cases e
  refine ⟨g, rfl, hgl, ?_⟩
  have := h.cells rfl i (.int .i64 u) (by rw [List.getElem?_map, hu]; rfl)
  rw [Lib.add_plain, Nat.zero_add] at this
  exact this
theorem CmpAt.make {w W7 W8 : World} {A D1 D2 b5 : Nat} {rl : List Int} {va : Value} (h : GrowAt w W7 W8 (A + 1) rl) (hva : One W7 A va) (hra : W7.ownsRow b5 3 1 va rl.length (rl.map intV)) (hb5 : A + 1 < b5) (hA : A < W7.heap.size) (hD1 : D1 ≠ A + 1) (hd1 : W7.heap[D1]? = some (.deferred (some []))) (_ : A + 3 ≤ D1) (hD : D1 < W7.heap.size) (hd2 : W8.heap[D2]? = some (.deferred (some []))) : CmpAt w W8 A D1 D2 rl := by
  obtain ⟨vb, hvb, hrb⟩ := h.row
  obtain ⟨p1, c1, rfl⟩ := row_form hra
  obtain ⟨p2, c2, rfl⟩ := row_form hrb
  refine ⟨h.old, (h.keep D1 hD hD1).trans hd1, hd2, p1, c1, p2, c2, (World.cell?_of_block (h.keep A hA (by omega))).trans hva.1, hvb.1, fun i u hu => ?_⟩
  obtain ⟨g1, e1, hl1, hc1⟩ := row_get hra hu
  obtain ⟨g2, e2, hl2, hc2⟩ := row_get hrb hu
  have hlow : b5 ≤ g1 := by subst e1; exact (hra.lt g1 rfl).1
  exact ⟨g1, g2, e1, e2, (World.cell?_of_block (h.keep g1 hl1 (by omega))).trans hc1, hc2⟩
set_option maxHeartbeats 8000000 in
theorem plain_c (a b c d k x y z n : Int) (hx : inI x) (hy : inI y) (hz : inI z) (hn : inI n) (w : World) (hS : SpansAt w) (hL : LaidT w) :
    Calls Tryd.prog 6 #[.agg #[.int .i64 a, .int .i64 b, .int .i64 c, .int .i64 d], .agg #[.int .i64 k, .int .i64 x, .int .i64 y, .int .i64 z], .int .i64 n] w fun e w' => e = .returned (.bool true) ∧ Below w.heap.size w w' := by
  have H0 := Lib.hid (TwoAt.new w a b c d k x y z)
  have HA := Lib.hid (awake_c _ (hL.below H0.out.old))
  have HLs : Hid (∀ W, Below w.heap.size w W → SpansAt W) := Lib.hid (fun W h => hS.below h)
  have HLt : Hid (∀ W, Below w.heap.size w W → LaidT W) := Lib.hid (fun W h => hL.below h)
  have HC1 := Lib.hid (opCheck_c a b c d k x y z)
  have HC2 := Lib.hid (opCheck_c a b c d k x (altB k y n) (altC k z n))
  have HT1 := Lib.hid (text_c k x y z hx hy hz)
  have HT2 := Lib.hid (text_c k x (altB k y n) (altC k z n) hx (altB_in hy hn) (altC_in hz hn))
  obtain ⟨e1, e2, e3⟩ := alt_same a b c d k x y z n
  rw [e1] at HC2; rw [e2] at HT2
  have HS1 : Hid (∀ (B : Nat) (W : World), Arr4 W B 25 k x y z → RowsAt W → SeqL 3 Fence.wide (20 - 1) Tryd.prog 23 #[.pointer (some ⟨B, 0, none⟩)] enc1 (regsL k x y z) W) := Lib.hid (fun B W h1 h2 => regs_seq 3 (by decide) (by decide) (20 - 1) (by decide) B k x y z W h1 h2)
  have HS2 : Hid (∀ (B : Nat) (W : World), Arr4 W B 25 k x (altB k y n) (altC k z n) → RowsAt W → SeqL 3 Fence.wide (20 - 1) Tryd.prog 23 #[.pointer (some ⟨B, 0, none⟩)] enc1 (regsL k x y z) W) := Lib.hid (fun B W h1 h2 => by rw [← e3]; exact regs_seq 3 (by decide) (by decide) (20 - 1) (by decide) B k x _ _ W h1 h2)
  have hrl : (regsL k x y z).length ≤ 3 := by
    rw [← regsTo_all]; exact regsTo_len _ _ _ _ _
  have HP1 : Hid (∀ w, Calls Tryd.prog 21 #[.int .i64 k, .int .i64 1] w fun e w' => e = .returned (.int .i64 (codeF k.toNat 1)) ∧ w = w') := Lib.hid (refPart_any k 1 (by omega))
  have HP2 : Hid (∀ w, Calls Tryd.prog 21 #[.int .i64 k, .int .i64 2] w fun e w' => e = .returned (.int .i64 (codeF k.toNat 2)) ∧ w = w') := Lib.hid (refPart_any k 2 (by omega))
  have HB : Hid (altB k y n = if codeF k.toNat 1 = 0 then n else y) := Lib.hid rfl
  have HD : Hid (altC k z n = if codeF k.toNat 2 = 0 then n else z) := Lib.hid rfl
  clear hS hL hx hy hz hn e1 e2 e3
  generalize codeF k.toNat 1 = c1 at *
  generalize codeF k.toNat 2 = c2 at *
  generalize altB k y n = y' at *
  generalize altC k z n = z' at *
  generalize checkF a b c d k x y z = CF at *
  generalize textF k x y z = TF at *
  generalize regsL k x y z = rl at *
  refine (callsIn_wide (n := 20)).1 ?_
  refine callsIn_of_wp_marks Tryd.func6 rfl trivial ?_ rfl
  simp only [Tryd.ntmps6, List.size_toArray, List.length_cons, List.length_nil, Nat.reduceAdd, Nat.reduceSub, Array.replicate_succ, Array.replicate_zero, List.push_toArray, List.append_toArray, List.nil_append, List.cons_append]
  gi_wp2_with fail
  refine ⟨trivial, ?_⟩
  refine (callsIn_wide.2 HA.out).mono ?_
  rintro e W1 ⟨rfl, hW⟩
  have H1 := Lib.hid (H0.out.on hW)
  have hz1 : w.heap.size + 2 ≤ W1.heap.size := H1.out.op.lt
  have hK0 : PlnsAt w (W1.alloc (.cells #[.int .i64 k, .int .i64 x, .int .i64 y, .int .i64 z] 25)) W1.heap.size a b c d k x y z y z := by
    have h := H1.out.on (below_new W1 (.cells #[.int .i64 k, .int .i64 x, .int .i64 y, .int .i64 z] 25))
    exact ⟨h.cfg, h.op, Arr4.new _ _ _ _ _ _, h.old, hz1⟩
  have HK0 := Lib.hid hK0
  obtain ⟨o0, o1, o2, o3, _⟩ := H1.out.op.cells
  have hlt1 : w.heap.size + 1 < W1.heap.size := H1.out.op.lt
  clear H0 HA hW hK0 H1
  gi_wp2_with fail
  refine ⟨trivial, ?_⟩
  refine (callsIn_wide.2 (HP1.out _)).mono ?_
  rintro e W2 ⟨rfl, hW2⟩
  rw [hW2] at HK0
  generalize hY : W1.heap.size = Y at *
  clear hW2 HP1 o0 o1 o2 o3
  gi_upto_if 19 with fail
  gi_cut [] from 20 (fun wc => Hid (PlnsAt w wc Y a b c d k x y z y' z))
  case first =>
    by_cases h : c1 = 0
    · have HE : Hid (y' = n) := Lib.hid (by rw [HB.out, if_pos h])
      obtain ⟨q0, q1, q2, q3, qf⟩ := HK0.out.cpy.cells
      have hq2 := qf 2
      subst h
      gi_wp2_with fail
      gi_meet
      case rel => rw [HE.out]; exact Lib.hid (HK0.out.setB n)
    · have HE : Hid (y' = y) := Lib.hid (by rw [HB.out, if_neg h])
      have hq : (c1 == 0) = false := by simpa using h
      gi_wp2_with fail
      gi_meet
      case rel => rw [HE.out]; exact HK0
  case rest =>
  have HK1 := hcut
  clear hcut HK0 HB
  obtain ⟨o0, o1, o2, o3, _⟩ := HK1.out.op.cells
  gi_wp2_with fail
  refine ⟨trivial, ?_⟩
  refine (callsIn_wide.2 (HP2.out _)).mono ?_
  rintro e W3 ⟨rfl, hW3⟩
  rw [hW3] at HK1
  clear hW3 HP2 o0 o1 o2 o3
  gi_upto_if 25 with fail
  gi_cut [] from 26 (fun wc => Hid (PlnsAt w wc Y a b c d k x y z y' z'))
  case first =>
    by_cases h : c2 = 0
    · have HE : Hid (z' = n) := Lib.hid (by rw [HD.out, if_pos h])
      obtain ⟨q0, q1, q2, q3, qf⟩ := HK1.out.cpy.cells
      have hq2 := qf 3
      subst h
      gi_wp2_with fail
      gi_meet
      case rel => rw [HE.out]; exact Lib.hid (HK1.out.setC n)
    · have HE : Hid (z' = z) := Lib.hid (by rw [HD.out, if_neg h])
      have hq : (c2 == 0) = false := by simpa using h
      gi_wp2_with fail
      gi_meet
      case rel => rw [HE.out]; exact HK1
  case rest =>
  have HK := Lib.hid (hcut.out.on (Below.refl _ wc).drew)
  clear hcut HK1 HD
  gi_wp2
  refine wpIn_wide.2 ?_
  refine wp_region_noPanic ?_
  refine wp_region_held_drew (S := fun W' => BoxAt W' w.heap.size a b c d ∧ BoxAt W' (w.heap.size + 1) k x y z ∧ BoxAt W' Y k x y' z') (by kernel_rfl) ?_ (fun hHeld => ?_)
  · exact ⟨(Arr4.box HK.out.cfg), (Arr4.box HK.out.op), (Arr4.box HK.out.cpy)⟩
  refine wpAnyH_take (i := 0) (oi := { dst := some 28, op := Op.load 23 (Operand.tmp 3), type := 23, pos := "law.go:74", after := #[], guard := none }) (v := ?vp0) rfl (by kernel_rfl) (by kernel_rfl) (by kernel_rfl) (fun _ _ _ h => h) (Or.inl ⟨by rfl, ?hyp0⟩) hHeld ?_
  case hyp0 => (intro w hSw; (try dsimp only at hSw); go_simp; (try with_reducible rfl))
  try simp only [Act.put, List.setIfInBounds_toArray, List.set_cons_zero, List.set_cons_succ]
  refine wpAnyH_take (i := 1) (oi := { dst := some 29, op := Op.load 25 (Operand.tmp 4), type := 25, pos := "law.go:74", after := #[], guard := none }) (v := ?vp1) rfl (by kernel_rfl) (by kernel_rfl) (by kernel_rfl) (fun _ _ _ h => h) (Or.inl ⟨by rfl, ?hyp1⟩) hHeld ?_
  case hyp1 => (intro w hSw; (try dsimp only at hSw); go_simp; (try with_reducible rfl))
  try simp only [Act.put, List.setIfInBounds_toArray, List.set_cons_zero, List.set_cons_succ]
  refine wpAnyH_take (i := 3) (oi := { dst := some 31, op := Op.load 23 (Operand.tmp 3), type := 23, pos := "law.go:74", after := #[], guard := none }) (v := ?vp3) rfl (by kernel_rfl) (by kernel_rfl) (by kernel_rfl) (fun _ _ _ h => h) (Or.inl ⟨by rfl, ?hyp3⟩) hHeld ?_
  case hyp3 => (intro w hSw; (try dsimp only at hSw); go_simp; (try with_reducible rfl))
  try simp only [Act.put, List.setIfInBounds_toArray, List.set_cons_zero, List.set_cons_succ]
  refine wpAnyH_take (i := 4) (oi := { dst := some 32, op := Op.load 25 (Operand.tmp 7), type := 25, pos := "law.go:74", after := #[], guard := none }) (v := ?vp4) rfl (by kernel_rfl) (by kernel_rfl) (by kernel_rfl) (fun _ _ _ h => h) (Or.inl ⟨by rfl, ?hyp4⟩) hHeld ?_
  case hyp4 => (intro w hSw; (try dsimp only at hSw); go_simp; (try with_reducible rfl))
  try simp only [Act.put, List.setIfInBounds_toArray, List.set_cons_zero, List.set_cons_succ]
  refine wpAnyH_ready (rs := [2]) (by kernel_rfl) (by simp) ?_
  refine AllReadyH.cons (o := { dst := some 30, op := Op.call { callee := Callee.value (Operand.func 10), args := #[Operand.tmp 28, Operand.tmp 29], argTypes := #[23, 25] }, type := 32, pos := "law.go:74", after := #[{ on := 0, ground := Ground.data }, { on := 1, ground := Ground.data }], guard := none }) rfl (fun K hK => ?_) AllReadyH.nil
  go_simp
  refine (HC1.out _ (HLs.out _ HK.out.old) (HLt.out _ HK.out.old).rows).mono ?_
  rintro e w1 ⟨rfl, hW⟩
  have HK := Lib.hid (HK.out.on hW)
  clear hW
  refine hK.out _ _ ?_ (fun hHeld => ?_)
  · exact ⟨(Arr4.box HK.out.cfg), (Arr4.box HK.out.op), (Arr4.box HK.out.cpy)⟩
  clear hK K
  try simp only [Act.put, List.setIfInBounds_toArray, List.set_cons_zero, List.set_cons_succ]
  refine wpAnyH_ready (rs := [5]) (by kernel_rfl) (by simp) ?_
  refine AllReadyH.cons (o := { dst := some 33, op := Op.call { callee := Callee.value (Operand.func 10), args := #[Operand.tmp 31, Operand.tmp 32], argTypes := #[23, 25] }, type := 32, pos := "law.go:74", after := #[{ on := 3, ground := Ground.data }, { on := 4, ground := Ground.data }, { on := 2, ground := Ground.chain }], guard := none }) rfl (fun K hK => ?_) AllReadyH.nil
  go_simp
  refine (HC2.out _ (HLs.out _ HK.out.old) (HLt.out _ HK.out.old).rows).mono ?_
  rintro e w1 ⟨rfl, hW⟩
  have HK := Lib.hid (HK.out.on hW)
  clear hW
  refine hK.out _ _ ?_ (fun hHeld => ?_)
  · exact ⟨(Arr4.box HK.out.cfg), (Arr4.box HK.out.op), (Arr4.box HK.out.cpy)⟩
  clear hK K
  try simp only [Act.put, List.setIfInBounds_toArray, List.set_cons_zero, List.set_cons_succ]
  refine wpAnyH_take (i := 6) (oi := { dst := some 34, op := Op.binOp BinOp.neq 32 (Operand.tmp 30) (Operand.tmp 33) 32, type := 4, pos := "law.go:74", after := #[{ on := 2, ground := Ground.data }, { on := 5, ground := Ground.data }], guard := none }) (v := ?vp6) rfl (by kernel_rfl) (by kernel_rfl) (by kernel_rfl) (fun _ _ _ h => h) (Or.inl ⟨by rfl, ?hyp6⟩) hHeld ?_
  case hyp6 => (intro w hSw; (try dsimp only at hSw); go_simp; (try with_reducible rfl))
  try simp only [Act.put, List.setIfInBounds_toArray, List.set_cons_zero, List.set_cons_succ]
  refine wpAnyH_take (i := 7) (oi := { dst := some 35, op := Op.move (Operand.tmp 34), type := 4, pos := "law.go:74", after := #[{ on := 6, ground := Ground.data }, { on := 5, ground := Ground.chain }], guard := none }) (v := ?vp7) rfl (by kernel_rfl) (by kernel_rfl) (by kernel_rfl) (fun _ _ _ h => h) (Or.inl ⟨by rfl, ?hyp7⟩) hHeld ?_
  case hyp7 => (intro w hSw; (try dsimp only at hSw); go_simp; (try with_reducible rfl))
  try simp only [Act.put, List.setIfInBounds_toArray, List.set_cons_zero, List.set_cons_succ]
  refine wpAnyH_take (i := 8) (oi := { dst := some 36, op := Op.load 25 (Operand.tmp 4), type := 25, pos := "law.go:74", after := #[{ on := 7, ground := Ground.guard }], guard := some (7, false) }) (v := ?vp8) rfl (by kernel_rfl) (by kernel_rfl) (by kernel_rfl) (fun _ _ _ h => h) (Or.inl ⟨by rfl, ?hyp8⟩) hHeld ?_
  case hyp8 => (intro w hSw; (try dsimp only at hSw); go_simp; (try with_reducible rfl))
  try simp only [Act.put, List.setIfInBounds_toArray, List.set_cons_zero, List.set_cons_succ]
  refine wpAnyH_take (i := 10) (oi := { dst := some 38, op := Op.load 25 (Operand.tmp 7), type := 25, pos := "law.go:74", after := #[{ on := 7, ground := Ground.guard }], guard := some (7, false) }) (v := ?vp10) rfl (by kernel_rfl) (by kernel_rfl) (by kernel_rfl) (fun _ _ _ h => h) (Or.inl ⟨by rfl, ?hyp10⟩) hHeld ?_
  case hyp10 => (intro w hSw; (try dsimp only at hSw); go_simp; (try with_reducible rfl))
  try simp only [Act.put, List.setIfInBounds_toArray, List.set_cons_zero, List.set_cons_succ]
  refine wpAnyH_ready (rs := [9]) (by kernel_rfl) (by simp) ?_
  refine AllReadyH.cons (o := { dst := some 37, op := Op.call { callee := Callee.value (Operand.func 16), args := #[Operand.tmp 36], argTypes := #[25] }, type := 9, pos := "law.go:74", after := #[{ on := 8, ground := Ground.data }, { on := 7, ground := Ground.chain }, { on := 7, ground := Ground.guard }], guard := some (7, false) }) rfl (fun K hK => ?_) AllReadyH.nil
  go_simp
  refine (HT1.out _ (HLt.out _ HK.out.old)).mono ?_
  rintro e w1 ⟨rfl, hW⟩
  have HK := Lib.hid (HK.out.on hW)
  clear hW
  refine hK.out _ _ ?_ (fun hHeld => ?_)
  · exact ⟨(Arr4.box HK.out.cfg), (Arr4.box HK.out.op), (Arr4.box HK.out.cpy)⟩
  clear hK K
  try simp only [Act.put, List.setIfInBounds_toArray, List.set_cons_zero, List.set_cons_succ]
  refine wpAnyH_ready (rs := [11]) (by kernel_rfl) (by simp) ?_
  refine AllReadyH.cons (o := { dst := some 39, op := Op.call { callee := Callee.value (Operand.func 16), args := #[Operand.tmp 38], argTypes := #[25] }, type := 9, pos := "law.go:74", after := #[{ on := 10, ground := Ground.data }, { on := 9, ground := Ground.chain }, { on := 7, ground := Ground.guard }], guard := some (7, false) }) rfl (fun K hK => ?_) AllReadyH.nil
  go_simp
  refine (HT2.out _ (HLt.out _ HK.out.old)).mono ?_
  rintro e w1 ⟨rfl, hW⟩
  have HK := Lib.hid (HK.out.on hW)
  clear hW
  refine hK.out _ _ ?_ (fun hHeld => ?_)
  · exact ⟨(Arr4.box HK.out.cfg), (Arr4.box HK.out.op), (Arr4.box HK.out.cpy)⟩
  clear hK K
  try simp only [Act.put, List.setIfInBounds_toArray, List.set_cons_zero, List.set_cons_succ]
  refine wpAnyH_take (i := 12) (oi := { dst := some 40, op := Op.binOp BinOp.neq 9 (Operand.tmp 37) (Operand.tmp 39) 9, type := 4, pos := "law.go:74", after := #[{ on := 9, ground := Ground.data }, { on := 11, ground := Ground.data }, { on := 7, ground := Ground.guard }], guard := some (7, false) }) (v := ?vp12) rfl (by kernel_rfl) (by kernel_rfl) (by kernel_rfl) (fun _ _ _ h => h) (Or.inl ⟨by rfl, ?hyp12⟩) hHeld ?_
  case hyp12 => (intro w hSw; (try dsimp only at hSw); go_simp; (try with_reducible rfl))
  try simp only [Act.put, List.setIfInBounds_toArray, List.set_cons_zero, List.set_cons_succ]
  refine wpAnyH_take (i := 13) (oi := { dst := some 41, op := Op.pick (Operand.tmp 35) (Operand.const (Value.bool true)) (Operand.tmp 40), type := 4, pos := "law.go:74", after := #[{ on := 7, ground := Ground.data }, { on := 12, ground := Ground.data }], guard := none }) (v := ?vp13) rfl (by kernel_rfl) (by kernel_rfl) (by kernel_rfl) (fun _ _ _ h => h) (Or.inl ⟨by rfl, ?hyp13⟩) hHeld ?_
  case hyp13 => (intro w hSw; (try dsimp only at hSw); go_simp; (try with_reducible rfl))
  try simp only [Act.put, List.setIfInBounds_toArray, List.set_cons_zero, List.set_cons_succ]
  refine wpAnyH_done (by kernel_rfl) ?_ _
  refine NoPanic.normal ?_
  gi_upto_if 41 with fail
  gi_cut [] from 13 (fun wc => Hid (PlnsAt w wc Y a b c d k x y z y' z'))
  case first =>
    gi_wp2_with fail
    gi_meet
    case rel => exact HK
  case rest =>
  have HK3 := hcut
  clear hcut
  have hlow : w.heap.size + 2 ≤ Y := HK3.out.low
  have hYlt : Y < wc.heap.size := HK3.out.cpy.lt
  have hbW := below_on (below_new wc (.cells #[.slice none 0 0] 27)) (.cells #[.slice none 0 0] 27)
  have HK4 := Lib.hid (HK3.out.on hbW)
  have hA1 := (One.new wc (.slice none 0 0) 27).on (below_new _ (.cells #[.slice none 0 0] 27))
  have hA2 : One ((wc.alloc (.cells #[.slice none 0 0] 27)).alloc (.cells #[.slice none 0 0] 27)) (wc.heap.size + 1) (.slice none 0 0) := by
    have := One.new (wc.alloc (.cells #[.slice none 0 0] 27)) (.slice none 0 0) 27
    simpa using this
  have HA1 := Lib.hid hA1; have HA2 := Lib.hid hA2
  have hzU : ((wc.alloc (.cells #[.slice none 0 0] 27)).alloc (.cells #[.slice none 0 0] 27)).heap.size = wc.heap.size + 2 := by simp
  clear hA1 hA2 hbW
  obtain ⟨o0, o1, o2, o3, _⟩ := HK4.out.op.cells
  gi_wp2_with fail
  refine ⟨trivial, ?_⟩
  refine (callsIn_wide.2 (opRegs_c k x y z _)).mono ?_
  rintro e W5 ⟨rfl, hW5⟩
  clear o0 o1 o2 o3 HK3
  generalize (wc.alloc (.cells #[.slice none 0 0] 27)).alloc (.cells #[.slice none 0 0] 27) = U at *
  have hb5 : Below U.heap.size U W5 := by rw [hW5]; exact below_new _ _
  have hX5 : Arr4 W5 U.heap.size 25 k x y z := by rw [hW5]; exact Arr4.new _ _ _ _ _ _
  have hzW : W5.heap.size = wc.heap.size + 3 := by rw [hW5]; simp [hzU]
  have HK5 := Lib.hid (HK4.out.on hb5)
  have HB1 := Lib.hid (HA1.out.on hb5); have HB2 := Lib.hid (HA2.out.on hb5)
  have HSe := Lib.hid (HS1.out _ W5 hX5 (HLt.out _ HK5.out.old).rows)
  rw [hzU] at HSe ⊢
  clear hb5 hX5 HK4 HA1 HA2 hW5 hzU HS1
  generalize hAA : wc.heap.size = A at *
  have hw5 : w.heap.size ≤ W5.heap.size := HK5.out.old.size
  obtain ⟨i3, hi3, hz0, hz1', hz2⟩ := info_parts infoInt
  gi_wp2
  refine wpIn_rangeL rfl (by decide) (gf := 23) (lb := #[.pointer (some ⟨A + 2, 0, none⟩)]) rfl trivial (enters_of Tryd.func23 (by kernel_rfl) rfl)
    HSe.out (Below.refl _ _) (fun _ => rfl)
    (fun pre W' => GrowAt w W5 W' A pre)
    (fun _ _ _ => False)
    (fun s A B row hs hg hrr => hs.own hw5 hg (fun r e => ⟨(hrr r e).1, (hrr r e).2⟩))
    (fun cc => fun s A B row hs hg hrr => hs)
    ⟨fun _ _ _ => rfl, Nat.le_refl _, HK5.out.old, _, HB1.out, World.ownsRow_nil _ _ _ _⟩
    (fun q => { tmps := #[.agg #[.int .i64 a, .int .i64 b, .int .i64 c, .int .i64 d], .agg #[.int .i64 k, .int .i64 x, .int .i64 y, .int .i64 z], .int .i64 n, .pointer (some ⟨w.heap.size, 0, none⟩), .pointer (some ⟨w.heap.size + 1, 0, none⟩), undef, u6, .pointer (some ⟨Y, 0, none⟩), .pointer (some ⟨A, 0, none⟩), .pointer (some ⟨A + 1, 0, none⟩), .int .i64 q, undef, undef, u13, u14, u15, u16, u17, u18, u19, u20, u21, u22, u23, u24, u25, u26, u27, u28, u29, u30, u31, u32, u33, u34, u35, u36, u37, u38, u39, u40, u41, .agg #[.int .i64 k, .int .i64 x, .int .i64 y, .int .i64 z], .func (.func 23) #[] #[.pointer (some ⟨A + 2, 0, none⟩)], .int .i64 q, u45, u46, u47, u48, u49, u50, u51, u52, u53, u54, u55, u56, u57, u58, u59, u60, u61, u62, u63, u64, u65, u66, u67, u68, u69, u70, u71, u72, u73, u74, u75, u76, u77, u78, u79, u80], defers := [] }) ?assign ?body ?done ?stop
  case assign =>
    intro l' q W' K hK
    simp only [enc1]
    gi_wp2
    exact hK
  case body =>
    rintro l' pre q W' hC hpre
    obtain ⟨v, h1, h2⟩ := hC.row
    obtain ⟨ad, cap, rfl⟩ := row_form h2
    have hpl : pre.length ≤ 3 := by have := hpre.length_le; simp at this; omega
    have hsz : W5.heap.size ≤ W'.heap.size := hC.size
    have hcv := h1.1
    clear hpre HSe
    gi_wp2_with (first
      | (gi_at_builtin; refine wpListIn_append_own _ rfl _ _ 27 rfl W5.heap.size 3 i3 (.int .i64 0) 1 8 Tryd.underlying27 hi3 hz0 hz1' hz2 rfl (by decide) _ _ _ rfl (h2.alloc _) ⟨W'.heap.size, 0, none⟩ 1 1 [.int .i64 q] rfl rfl (World.news_of_block (heap_alloc_new W' _)) (by simp [Value.oneCell']) (by unfold maxLen; omega) (by omega) (by simp; omega) ?_; intro v' w1 hown' hgrow _; obtain ⟨g', cap', rfl⟩ := ownsRow_succ hown'; obtain ⟨⟨hc1, hf1⟩, hG2, hkt⟩ := GrowAt.add (by omega) (by omega) hC h1 h2 hown' hgrow; have HG := Lib.hid hG2; have HKT := Lib.hid hkt; clear hG2 hkt hown' hgrow hC h1 h2 hcv))
    exact ⟨HKT.out _ (Nat.le_refl _), HG.out⟩
  case stop =>
    rintro D cc pre W' hD hpre hF hK
    exact hF.elim
  case done =>
  rintro D1 W6 hD1 hG1 hK1
  have hz6 : A + 3 ≤ W6.heap.size := by have := hG1.size; omega
  have hY6 : Arr4 W6 Y 25 k x y' z' := HK5.out.cpy.other (hG1.keep Y (by omega) (by omega))
  have hO6 : One W6 (A + 1) (.slice none 0 0) := ⟨(World.cell?_of_block (hG1.keep (A + 1) (by omega) (by omega))).trans HB2.out.1, (World.frozen?_of_block (hG1.keep (A + 1) (by omega) (by omega))).trans HB2.out.2⟩
  have HG1 := Lib.hid hG1; have HO6 := Lib.hid hO6; have HKD := Lib.hid hK1
  obtain ⟨o0, o1, o2, o3, _⟩ := hY6.cells
  clear hG1 hO6 hK1 HSe HK5 HB1 HB2 hY6
  gi_wp2_with fail
  refine ⟨trivial, ?_⟩
  refine (callsIn_wide.2 (opRegs_c k x y' z' _)).mono ?_
  rintro e W7 ⟨rfl, hW7⟩
  have hb7 : Below W6.heap.size W6 W7 := by rw [hW7]; exact below_new _ _
  have hX7 : Arr4 W7 W6.heap.size 25 k x y' z' := by rw [hW7]; exact Arr4.new _ _ _ _ _ _
  have hz7 : W7.heap.size = W6.heap.size + 1 := by rw [hW7]; simp
  have HB7 := Lib.hid (belowOn HG1.out.old hb7)
  have HO7 := Lib.hid (HO6.out.on hb7)
  have HKD7 := Lib.hid (block_some hb7 HKD.out)
  have HSe := Lib.hid (HS2.out _ W7 hX7 (HLt.out _ HB7.out).rows)
  obtain ⟨va, hva, hra⟩ := HG1.out.row
  have hva7 := hva.on hb7
  have hra7 := ownsRow_below4 hra hb7
  have HVA := Lib.hid hva7; have HRA := Lib.hid hra7
  clear hva hra hva7 hra7 HKD HO6 HG1 hb7 hX7 hW7 HS2 o0 o1 o2 o3
  have hw7 : w.heap.size ≤ W7.heap.size := HB7.out.size
  gi_wp2
  refine wpIn_rangeL rfl (by decide) (gf := 23) (lb := #[.pointer (some ⟨W6.heap.size, 0, none⟩)]) rfl trivial (enters_of Tryd.func23 (by kernel_rfl) rfl)
    HSe.out (Below.refl _ _) (fun _ => rfl)
    (fun pre W' => GrowAt w W7 W' (A + 1) pre)
    (fun _ _ _ => False)
    (fun s A B row hs hg hrr => hs.own hw7 hg (fun r e => ⟨(hrr r e).1, (hrr r e).2⟩))
    (fun cc => fun s A B row hs hg hrr => hs)
    ⟨fun _ _ _ => rfl, Nat.le_refl _, HB7.out, _, HO7.out, World.ownsRow_nil _ _ _ _⟩
    (fun q => { tmps := #[.agg #[.int .i64 a, .int .i64 b, .int .i64 c, .int .i64 d], .agg #[.int .i64 k, .int .i64 x, .int .i64 y, .int .i64 z], .int .i64 n, .pointer (some ⟨w.heap.size, 0, none⟩), .pointer (some ⟨w.heap.size + 1, 0, none⟩), undef, u6, .pointer (some ⟨Y, 0, none⟩), .pointer (some ⟨A, 0, none⟩), .pointer (some ⟨A + 1, 0, none⟩), undef, .int .i64 q, undef, u13, u14, u15, u16, u17, u18, u19, u20, u21, u22, u23, u24, u25, u26, u27, u28, u29, u30, u31, u32, u33, u34, u35, u36, u37, u38, u39, u40, u41, .agg #[.int .i64 k, .int .i64 x, .int .i64 y, .int .i64 z], .func (.func 23) #[] #[.pointer (some ⟨A + 2, 0, none⟩)], u44, u45, u46, u47, u48, .agg #[.int .i64 k, .int .i64 x, .int .i64 y', .int .i64 z'], .func (.func 23) #[] #[.pointer (some ⟨W6.heap.size, 0, none⟩)], .int .i64 q, u52, u53, u54, u55, u56, u57, u58, u59, u60, u61, u62, u63, u64, u65, u66, u67, u68, u69, u70, u71, u72, u73, u74, u75, u76, u77, u78, u79, u80], defers := [] }) ?assign2 ?body2 ?done2 ?stop2
  case assign2 =>
    intro l' q W' K hK
    simp only [enc1]
    gi_wp2
    exact hK
  case body2 =>
    rintro l' pre q W' hC hpre
    obtain ⟨v, h1, h2⟩ := hC.row
    obtain ⟨ad, cap, rfl⟩ := row_form h2
    have hpl : pre.length ≤ 3 := by have := hpre.length_le; simp at this; omega
    have hsz : W7.heap.size ≤ W'.heap.size := hC.size
    have hcv := h1.1
    clear hpre HSe
    gi_wp2_with (first
      | (gi_at_builtin; refine wpListIn_append_own _ rfl _ _ 27 rfl W7.heap.size 3 i3 (.int .i64 0) 1 8 Tryd.underlying27 hi3 hz0 hz1' hz2 rfl (by decide) _ _ _ rfl (h2.alloc _) ⟨W'.heap.size, 0, none⟩ 1 1 [.int .i64 q] rfl rfl (World.news_of_block (heap_alloc_new W' _)) (by simp [Value.oneCell']) (by unfold maxLen; omega) (by omega) (by simp; omega) ?_; intro v' w1 hown' hgrow _; obtain ⟨g', cap', rfl⟩ := ownsRow_succ hown'; obtain ⟨⟨hc1, hf1⟩, hG2, hkt⟩ := GrowAt.add (by omega) (by omega) hC h1 h2 hown' hgrow; have HG := Lib.hid hG2; have HKT := Lib.hid hkt; clear hG2 hkt hown' hgrow hC h1 h2 hcv))
    exact ⟨HKT.out _ (Nat.le_refl _), HG.out⟩
  case stop2 =>
    rintro D cc pre W' hD hpre hF hK
    exact hF.elim
  case done2 =>
  rintro D2 W8 hD2 hG2 hK2
  have hD1lt : D1 < W7.heap.size := (Array.getElem?_eq_some_iff.1 HKD7.out).1
  have HM : Hid (CmpAt w W8 A D1 D2 rl) := Lib.hid (CmpAt.make hG2 HVA.out HRA.out (by omega) (by omega) (by omega) HKD7.out (by omega) (by omega) hK2)
  clear hG2 HVA HRA HKD7 hK2 HSe HB7 HO7
  obtain ⟨p1, k1, p2, k2, hca, hcb, hget⟩ := HM.out.both
  have hrl3 : ¬ (3 : Int) < (rl.length : Int) := by omega
  clear hget
  gi_wp2
  gi_loopw [12] (fun vi wr => ∃ i : Nat, vi = .int .i64 i ∧ i ≤ rl.length ∧ Hid (CmpAt w wr A D1 D2 rl) ∧ wr.cell? ⟨A, 0, none⟩ = some (.slice p1 rl.length k1) ∧ wr.cell? ⟨A + 1, 0, none⟩ = some (.slice p2 rl.length k2)) (fun vi _ => rl.length - (intOf vi).toNat)
  case atStart => exact ⟨0, rfl, by omega, HM, hca, hcb⟩
  case round =>
    clear HM hca hcb
    obtain ⟨i, rfl, hi, HM, hca, hcb⟩ := hrel
    by_cases hlt : i < rl.length
    · obtain ⟨u, hu⟩ : ∃ u, rl[i]? = some u := ⟨_, List.getElem?_eq_getElem hlt⟩
      obtain ⟨q1, j1, q2, j2, hca', hcb', hget⟩ := HM.out.both
      rw [hca] at hca'; rw [hcb] at hcb'
      cases hca'; cases hcb'
      obtain ⟨g1, g2, rfl, rfl, hc1, hc2⟩ := hget i u hu
      clear hget hu
      gi_wp2
      gi_region
      all_goals
        gi_wp2
        go_roundw
        case rel => exact ⟨i + 1, by go_num, by omega, Lib.hid HM.out.drew, hca, hcb⟩
        case measure => simp [intOf]; omega
    · obtain rfl : i = rl.length := by omega
      gi_wp2
      have hd1 := HM.out.d1; have hd2 := HM.out.d2
      have hd1' : (wr.putObj D2 (.deferred none)).heap[D1]? = some (.deferred (some [])) := (World.putObj_heap_other (by omega)).trans hd1
      refine ⟨by simp, .inl ⟨_, _, rfl, run_takeDeferred hd2, ?_⟩⟩
      refine ⟨by simp, .inl ⟨_, _, rfl, run_takeDeferred hd1', ?_⟩⟩
      have hB5 := HM.out.old.grown (grownBy_putObj' _ D2 (.deferred none)) HM.out.old.size (fun k e => by cases e; omega)
      refine ⟨.bool true, ?_, rfl, hB5.grown (grownBy_putObj' _ D1 (.deferred none)) hB5.size (fun k e => by cases e; omega)⟩
      simp [results, Tryd.f6, go_sem]
end Go.Proofs.YtaiioflhkmflgaaDoor
