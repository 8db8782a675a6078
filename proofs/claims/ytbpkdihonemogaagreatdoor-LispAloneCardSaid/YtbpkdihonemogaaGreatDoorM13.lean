/- Laid together: Bytes, LispAlM, LispFrameA. -/
import Derived.Test.YtbpkdihonemogaaGreatDoorM1
import Derived.Test.YtbpkdihonemogaaGreatDoorM12
import Derived.Test.YtbpkdihonemogaaGreatDoorM9
import Derived.Test.YtbpkdihonemogaaGreatDoorIdealDo
import Derived.Test.YtbpkdihonemogaaGreatDoorM2
import Derived.Test.YtbpkdihonemogaaGreatDoorM4
import Derived.Stop.LaidErr
import Derived.Carry
import Derived.JoinedOf
import Derived.SizedLaws
/- A slice of bytes that was handed in. -/
namespace Go.Proofs.YtbpkdihonemogaaGreatDoor
open Go Go.RowKit
/-- A slice of bytes. -/
def BytesAt (w : World) (a : Option Addr) (n : Nat) (f : Nat → Nat) : Prop := n = 0 ∨ ∃ b off, a = some ⟨b, off, none⟩ ∧ b < w.heap.size ∧ ∀ j, j < n → w.cell? ⟨b, off + j, none⟩ = some (.int .u8 (f j : Int))
theorem BytesAt.below {w w' : World} {a : Option Addr} {n : Nat} {f : Nat → Nat} (h : BytesAt w a n f) (hb : Below w.heap.size w w') : BytesAt w' a n f := by
  rcases h with h | ⟨b, off, h1, h2, h3⟩
  · exact .inl h
  · exact .inr ⟨b, off, h1, by have := hb.size; omega, fun j hj => (hb.cell (p := ⟨b, off + j, none⟩) h2).trans (h3 j hj)⟩
def GivenB (W : World) (a : Option Addr) (n : Nat) (f : Nat → Nat) : Prop := n ≤ 9223372036854775807 ∧ BytesAt W a n f ∧ ∀ j, f j < 256
end Go.Proofs.YtbpkdihonemogaaGreatDoor
/- An operation by itself beside the ideal store: memory. -/
namespace Go.Proofs.YtbpkdihonemogaaGreatDoor
open Go Go.RowKit
set_option maxRecDepth 100000
attribute [local go_sem ↓] Go.wp_at_zero Go.wp_at_succ

theorem belowS {w W V : World} (h : Below w.heap.size w W) (h1 : V.os = W.os) (h2 : V.tape = W.tape) (h3 : V.output = W.output) (h4 : W.heap.size ≤ V.heap.size) (h5 : ∀ k, k < w.heap.size → V.heap[k]? = W.heap[k]?) : Below w.heap.size w V :=
  ⟨h1.trans h.os, h2.trans h.tape, h3.trans h.output, Nat.le_trans h.size h4, fun k hk => (h5 k hk).trans (h.block k hk)⟩
/-- A hand, and an ideal store, in blocks behind what was there; the configuration's box ahead of them. -/
structure AlM (w W : World) (H A G X R L : Nat) (v : Value) (n : Nat) (a : Int) (b c d : Nat) (s : Dy) (σ : St) : Prop where
  old : Below w.heap.size w W
  box : BoxAt W w.heap.size a b c d
  hand : HAt W H A G ⟨n, a, b, c, d⟩ s
  store : Il.StoreAt W X R L v b c d σ
  lH : w.heap.size < H ∧ w.heap.size < G
  lX : w.heap.size < X ∧ w.heap.size < R ∧ w.heap.size < L ∧ ∀ k, v.ownBlock = some k → w.heap.size < k
  ap : ∀ k, Il.foot X R L v k → k ≠ H ∧ k ≠ A ∧ k ≠ G
/-- .. and how far a mutator is. -/
structure AlT (w W : World) (H A G X R L : Nat) (v : Value) (n : Nat) (a : Int) (b c d : Nat) (s : Dy) (σ : St) (B : Nat) (m : Mu) : Prop where
  al : AlM w W H A G X R L v n a b c d s σ
  mu : MuAt W B m
  lB : w.heap.size < B
  nB : B ≠ H ∧ B ≠ A ∧ B ≠ G ∧ ¬ Il.foot X R L v B
section
variable {w W V : World} {H A G X R L : Nat} {v : Value} {n : Nat} {a : Int} {b c d : Nat} {s s' : Dy} {σ : St} {B : Nat} {m : Mu}
theorem AlM.lt (h : AlM w W H A G X R L v n a b c d s σ) : w.heap.size < W.heap.size := lt_of_cell h.box.1
theorem AlM.below (h : AlM w W H A G X R L v n a b c d s σ) (hb : Below W.heap.size W V) : AlM w V H A G X R L v n a b c d s σ := ⟨belowOn h.old hb, h.box.below hb, h.hand.below hb, h.store.below hb, h.lH, h.lX, h.ap⟩
theorem AlM.drew (h : AlM w W H A G X R L v n a b c d s σ) : AlM w W.drew H A G X R L v n a b c d s σ := ⟨h.old.drew, h.box, h.hand.drew, h.store.drew, h.lH, h.lX, h.ap⟩
theorem BoxAt.blk {W V : World} {B : Nat} {a b c d : Int} (h : BoxAt W B a b c d) (e : V.heap[B]? = W.heap[B]?) : BoxAt V B a b c d := by
  obtain ⟨h0, h1, h2, h3⟩ := h
  exact ⟨(World.cell?_of_block (a := ⟨B, 0, none⟩) e).trans h0, (World.cell?_of_block (a := ⟨B, 1, none⟩) e).trans h1, (World.cell?_of_block (a := ⟨B, 2, none⟩) e).trans h2, (World.cell?_of_block (a := ⟨B, 3, none⟩) e).trans h3⟩
/-- A call of the hand's. -/
theorem AlM.hp (h : AlM w W H A G X R L v n a b c d s σ) {u : Value} {e : Ending} (hp : HP W H A G ⟨n, a, b, c, d⟩ s' u e V) : e = .returned u ∧ AlM w V H A G X R L v n a b c d s' σ := by
  obtain ⟨h1, h2, h3⟩ := hp
  have hl := h.lH
  refine ⟨h1, h3.old h.old (by omega) (by omega), h.box.blk (h3.block _ h.lt (fun e => by rcases e with e | e <;> omega)), h2, ?_, h.lH, h.lX, h.ap⟩
  refine h.store.other (fun k hk => h3.block k (h.store.lt k hk) (fun e => ?_))
  have := h.ap k hk
  rcases e with e | e
  · exact this.1 e
  · exact this.2.2 e
/-- An operation of the store's. -/
theorem AlM.does (h : AlM w W H A G X R L v n a b c d s σ) {σ' : St} {r : Int} {e : Ending} (hp : Il.DoPost W X R L v b c d σ' r e V) : e = .returned (.int .i64 r) ∧ ∃ v', AlM w V H A G X R L v' n a b c d s σ' := by
  obtain ⟨v', h1, h2, h3, h4⟩ := hp
  have hl := h.lX
  have hs := h.lt
  have hnf : ¬ Il.foot X R L v w.heap.size := by rintro (e | e | e | e) <;> first | omega | (have := hl.2.2.2 _ e; omega)
  have hH := h.hand.lt; have hA := h.hand.ar.lt; have hG := h.hand.ar.row.lt
  have key : ∀ k, Il.foot X R L v' k → Il.foot X R L v k ∨ W.heap.size ≤ k := by
    rintro k (e | e | e | e)
    · exact .inl (.inl e)
    · exact .inl (.inr (.inl e))
    · exact .inl (.inr (.inr (.inl e)))
    · rcases h3 k e with e | e
      · exact .inl (.inr (.inr (.inr e)))
      · exact .inr e
  refine ⟨h1, v', ?_, h.box.blk (h4.block _ hs hnf), ?_, h2, h.lH, ⟨hl.1, hl.2.1, hl.2.2.1, fun k e => ?_⟩, fun k hk => ?_⟩
  · exact belowS h.old h4.os h4.tape h4.output h4.size (fun k hk => h4.block k (by omega) (by rintro (e | e | e | e) <;> first | omega | (have := hl.2.2.2 _ e; omega)))
  · exact h.hand.other (h4.block _ hH (fun e => (h.ap _ e).1 rfl)) (h4.block _ hA (fun e => (h.ap _ e).2.1 rfl)) (h4.block _ hG (fun e => (h.ap _ e).2.2 rfl))
  · rcases h3 k e with e | e
    · exact hl.2.2.2 k e
    · omega
  · rcases key k hk with e | e
    · exact h.ap k e
    · exact ⟨by omega, by omega, by omega⟩
theorem AlT.below (h : AlT w W H A G X R L v n a b c d s σ B m) (hb : Below W.heap.size W V) : AlT w V H A G X R L v n a b c d s σ B m := ⟨h.al.below hb, h.mu.below hb, h.lB, h.nB⟩
theorem AlT.hp (h : AlT w W H A G X R L v n a b c d s σ B m) {u : Value} {e : Ending} (hp : HP W H A G ⟨n, a, b, c, d⟩ s' u e V) : e = .returned u ∧ AlT w V H A G X R L v n a b c d s' σ B m :=
  ⟨(h.al.hp hp).1, (h.al.hp hp).2, Mut13.savH h.mu hp.2.2 h.nB.1 h.nB.2.2.1, h.lB, h.nB⟩
theorem AlT.put (h : AlT w W H A G X R L v n a b c d s σ B m) (m' : Mu) : AlT w (put13 W B m'.l m'.p m'.bk m'.q1 m'.q2 m'.q3 m'.q4 m'.m1 m'.m2 m'.m3 m'.m4 m'.m5 m'.rt) H A G X R L v n a b c d s σ B m' := by
  have hl := h.lB
  refine ⟨⟨?_, ?_, h.al.hand.put13 h.nB.1 h.nB.2.1 h.nB.2.2.1 _ _ _ _ _ _ _ _ _ _ _ _ _, ?_, h.al.lH, h.al.lX, h.al.ap⟩, Mut13.put h.mu _ _ _ _ _ _ _ _ _ _ _ _ _, h.lB, h.nB⟩
  · exact ((Sav.of (S := fun _ => False) h.al.old).put13 (.inr (by omega)) _ _ _ _ _ _ _ _ _ _ _ _ _).below (Nat.le_refl _) (fun _ _ e => e)
  · exact h.al.box.blk (heap_put13 _ _ _ _ _ _ _ _ _ _ _ _ _ _ _ (by omega))
  · exact h.al.store.other (fun k hk => heap_put13 _ _ _ _ _ _ _ _ _ _ _ _ _ _ _ (fun e => h.nB.2.2.2 (e ▸ hk)))
theorem AlM.mu (h : AlM w W H A G X R L v n a b c d s σ) (m : Mu) : AlT w (W.alloc (.cells #[.int .i64 m.l, .int .i64 m.q1, .int .i64 m.q2, .int .i64 m.q3, .int .i64 m.q4, .int .u64 m.m1, .int .u64 m.m2, .int .u64 m.m3, .int .u64 m.m4, .int .u64 m.m5, .int .u64 m.p, .int .i64 m.bk, .int .i64 m.rt] 30)) H A G X R L v n a b c d s σ W.heap.size m := by
  have h1 := h.hand.lt; have h2 := h.hand.ar.lt; have h3 := h.hand.ar.row.lt; have h4 := h.lt
  exact ⟨h.below (below_new _ _), Mut13.new _ _ _ _ _ _ _ _ _ _ _ _ _ _, h4, by omega, by omega, by omega, fun e => by have := h.store.lt _ e; omega⟩
/-- Behind an operation of the store's the mutator is as far as it was. -/
theorem AlT.does (h : AlT w W H A G X R L v n a b c d s σ B m) {σ' : St} {r : Int} {e : Ending} (hp : Il.DoPost W X R L v b c d σ' r e V) : e = .returned (.int .i64 r) ∧ MuAt V B m ∧ ∃ v', AlM w V H A G X R L v' n a b c d s σ' := by
  obtain ⟨h1, h2⟩ := h.al.does hp
  obtain ⟨_, _, _, _, h4⟩ := hp
  exact ⟨h1, h.mu.other (h4.block _ h.mu.lt h.nB.2.2.2), h2⟩
end
/-- An operation, as a record. -/
structure Op4 where
  k : Int
  x : Int
  y : Int
  z : Int
/-- A slice of operations. -/
def OpsIn (w : World) (a : Option Addr) (n : Nat) (g : Nat → Op4) : Prop :=
  n = 0 ∨ ∃ b off, a = some ⟨b, off, none⟩ ∧ b < w.heap.size ∧ ∀ j, j < n → w.cell? ⟨b, off + j * 4, none⟩ = some (.int .i64 (g j).k) ∧ w.cell? ⟨b, off + j * 4 + 1, none⟩ = some (.int .i64 (g j).x) ∧ w.cell? ⟨b, off + j * 4 + 2, none⟩ = some (.int .i64 (g j).y) ∧ w.cell? ⟨b, off + j * 4 + 3, none⟩ = some (.int .i64 (g j).z)
theorem OpsIn.below {w w' : World} {a : Option Addr} {n : Nat} {g : Nat → Op4} (h : OpsIn w a n g) (hb : Below w.heap.size w w') : OpsIn w' a n g := by
  rcases h with h | ⟨b, off, e, h1, h2⟩
  · exact .inl h
  · refine .inr ⟨b, off, e, Nat.lt_of_lt_of_le h1 hb.size, fun j hj => ?_⟩
    have k : ∀ o v, w.cell? ⟨b, o, none⟩ = some v → w'.cell? ⟨b, o, none⟩ = some v := fun o v e => (hb.cell (p := ⟨b, o, none⟩) h1).trans e
    obtain ⟨q0, q1, q2, q3⟩ := h2 j hj
    exact ⟨k _ _ q0, k _ _ q1, k _ _ q2, k _ _ q3⟩
/-- Operations that were handed in. -/
def GivenOps (W : World) (a : Option Addr) (n : Nat) (g : Nat → Op4) : Prop := n ≤ 9223372036854775807 ∧ OpsIn W a n g ∧ ∀ j, j < n → inI (g j).k ∧ inI (g j).x ∧ inI (g j).y ∧ inI (g j).z
end Go.Proofs.YtbpkdihonemogaaGreatDoor
/- What the listed variables hold, cell for cell, for LispAlone's card; slices of bytes and of operations that were read, as arguments. -/
namespace Go.Proofs.YtbpkdihonemogaaGreatDoor
open Go Go.ChangeShapes Go.WideShapes Go.ChangeAt Go.WideMaps Go.WideElems Go.RowKit
set_option maxRecDepth 100000
/-- The list of the listed variables, as the row has it. -/
abbrev listed : List (String × DataW Unit) := Rows.lispAloneRow.laid
section
variable {H : Type} {enc : TypeId × Value → H} {P : Program}
/-- A struct of two texts, read. -/
theorem pair_cells {w : World} {bs : Nat} {sp : Nat → Bool} {held : Bool} {fuel : Nat} {t ts : TypeId} {f0 f1 : Field} {cs : List Value} {z u : List UInt8} {x : DataW H × List MemPlace}
    (ht : P.underlying t = some (.struct #[f0, f1])) (e0 : f0.type = ts ∧ f0.offset = 0) (e1 : f1.type = ts ∧ f1.offset = 1) (hs : P.underlying ts = some .string)
    (cS : P.cellsOf ts = 1) (h : DataW.trod enc P w bs sp held fuel t cs = some x) (hx : x.1 = .agg [.lit (.string z), .lit (.string u)]) :
    cs[0]? = some (.string ⟨z.toArray⟩) ∧ cs[1]? = some (.string ⟨u.toArray⟩) := by
  obtain ⟨xs, n, _, rfl, _, hl, hf⟩ := DataW.trod_struct ht h
  have g0 := hf 0 f0 rfl
  have g1 := hf 1 f1 rfl
  simp only [e0.1, e0.2, e1.1, e1.2, cS] at g0 g1
  simp only [DataW.agg.injEq] at hx
  match xs, hx with
  | [y0, y1], hx =>
    simp only [List.map_cons, List.map_nil, List.cons.injEq, and_true] at hx
    obtain ⟨h0, h1⟩ := hx
    obtain ⟨s, c0, d0, _⟩ := DataW.trod_string hs (g0.trans rfl)
    obtain ⟨p, c1, d1, _⟩ := DataW.trod_string hs (g1.trans rfl)
    rw [d0] at h0; rw [d1] at h1
    simp only [DataW.lit.injEq, Lit.string.injEq] at h0 h1
    have k0 := congrArg (·[0]?) c0
    have k1 := congrArg (·[0]?) c1
    simp at k0 k1
    exact ⟨by rw [k0, ← h0], by rw [k1, ← h1]⟩
end
theorem gRows : Tryz.prog.globalNamed "mudlark/op.rows" = some 1 := by kernel_rfl
theorem gRowsType : (Tryz.prog.globals[1]?).map (·.type) = some 150 := by kernel_rfl
theorem cellsRow : Tryz.prog.cellsOf 149 = 2 := by kernel_rfl
theorem rows_list {H : Type} : (Rows.laid_mudlark_op_rows : DataW H) = .agg ((List.range 12).map fun i => .agg [.lit (.string (nmL i)), .lit (.string (hsL i))]) := rfl
theorem rowsAt_of {W : World} {rest : List (String × DataW Unit)} (h : laidMet Tryz.prog (("mudlark/op.rows", Rows.laid_mudlark_op_rows) :: rest) W) : RowsAt W := by
  obtain ⟨ps, ⟨g', t', cs, fuel, p, q, hg', ht', hvar, hd, _, _⟩, _⟩ := h
  obtain rfl := Option.some.inj (gRows.symm.trans hg')
  obtain rfl := Option.some.inj (gRowsType.symm.trans ht')
  obtain ⟨xs, m, _, ex, _, hl, hel⟩ := DataW.trod_array Tryz.underlying150 hd
  rw [rows_list] at ex
  have e3 : xs.map (·.1) = _ := (DataW.agg.inj (Prod.mk.inj ex).1).symm
  have hc := fun i => World.var?_cell gRows hvar i
  have key : ∀ i, i < 12 → cs[i * 2]? = some (.string ⟨(nmL i).toArray⟩) ∧ cs[i * 2 + 1]? = some (.string ⟨(hsL i).toArray⟩) := fun i hi => by
    have ei := congrArg (fun l => l[i]?) e3
    simp only [List.getElem?_map, List.getElem?_range hi, Option.map_some] at ei
    obtain ⟨y, hy, hy1⟩ := Option.map_eq_some_iff.1 ei
    have r := pair_cells Tryz.underlying149 ⟨rfl, rfl⟩ ⟨rfl, rfl⟩ Tryz.underlying9 cellsString ((hel i (by omega)).trans hy) hy1
    simp only [cellsRow, List.getElem?_take, List.getElem?_drop] at r
    simpa using r
  exact ⟨fun i hi => (hc (i * 2)).trans (key i hi).1, fun i hi => (hc (i * 2 + 1)).trans (key i hi).2⟩
theorem laidOut : laidOutB Tryz.prog = true := by kernel_rfl
theorem inI_of {n : Int} (h : (Lit.int .i64 n).wf = true) : inI n := by
  have hb := bounds_i64 h
  unfold inI; omega
theorem cellsOp : Tryz.prog.cellsOf 26 = 4 := by kernel_rfl
theorem u8_nat {n : Int} (h : (Lit.int .u8 n).wf = true) : ∃ m : Nat, n = m ∧ m < 256 := by
  have hb := bounds_u8 h
  exact ⟨n.toNat, by omega, by omega⟩
/-- What the four rows list. -/
theorem laid_of {W : World} (h : laidMetH Tryz.prog Rows.lispAloneRow.laid W) : SpansAt W ∧ RowsAt W := by
  rw [MakeChecks.laidMetH_plain _ _ _ (by kernel_rfl)] at h
  have h1 : laidMet Tryz.prog (("mudlark/config.spans", Rows.laid_mudlark_config_spans) :: ("mudlark/op.rows", Rows.laid_mudlark_op_rows) :: []) W := h
  exact ⟨spansAt h1, rowsAt_of h1.tail⟩
theorem op_cells {H : Type} {enc : TypeId × Value → H} {P : Program} {w : World} {bs : Nat} {sp : Nat → Bool} {held : Bool} {fuel : Nat} {t ti : TypeId} {f0 f1 f2 f3 : Field} {cs : List Value} {z : DataW H × List MemPlace}
    (ht : P.underlying t = some (.struct #[f0, f1, f2, f3])) (e0 : f0.type = ti ∧ f0.offset = 0) (e1 : f1.type = ti ∧ f1.offset = 1) (e2 : f2.type = ti ∧ f2.offset = 2) (e3 : f3.type = ti ∧ f3.offset = 3)
    (hi : P.underlying ti = some (.int .i64)) (cI : P.cellsOf ti = 1) (h : DataW.trod enc P w bs sp held fuel t cs = some z) :
    ∃ a b c d : Int, cs[0]? = some (.int .i64 a) ∧ cs[1]? = some (.int .i64 b) ∧ cs[2]? = some (.int .i64 c) ∧ cs[3]? = some (.int .i64 d) ∧ inI a ∧ inI b ∧ inI c ∧ inI d := by
  obtain ⟨xs, n, _, _, _, hl, hf⟩ := DataW.trod_struct ht h
  have g0 := hf 0 f0 rfl
  have g1 := hf 1 f1 rfl
  have g2 := hf 2 f2 rfl
  have g3 := hf 3 f3 rfl
  simp only [e0.1, e0.2, e1.1, e1.2, e2.1, e2.2, e3.1, e3.2, cI] at g0 g1 g2 g3
  have hl' : xs.length = 4 := hl
  match xs, hl' with
  | [y0, y1, y2, y3], _ =>
    obtain ⟨a, c0, _, w0⟩ := DataW.trod_int hi (g0.trans rfl)
    obtain ⟨b, c1, _, w1⟩ := DataW.trod_int hi (g1.trans rfl)
    obtain ⟨c, c2, _, w2⟩ := DataW.trod_int hi (g2.trans rfl)
    obtain ⟨d, c3, _, w3⟩ := DataW.trod_int hi (g3.trans rfl)
    have k0 := congrArg (·[0]?) c0
    have k1 := congrArg (·[0]?) c1
    have k2 := congrArg (·[0]?) c2
    have k3 := congrArg (·[0]?) c3
    simp [List.getElem?_drop] at k0 k1 k2 k3
    exact ⟨a, b, c, d, k0, k1, k2, k3, inI_of w0, inI_of w1, inI_of w2, inI_of w3⟩
theorem cellsByte : Tryz.prog.cellsOf 5 = 1 := by kernel_rfl
theorem byte_range {zs : List Int} (h : ∀ n ∈ zs, (Lit.int .u8 n).wf = true) (j : Nat) : 0 ≤ zs[j]?.getD 0 ∧ zs[j]?.getD 0 ≤ 255 := by
  by_cases hj : j < zs.length
  · have := bounds_u8 (h zs[j] (List.getElem_mem hj))
    simp [hj]; omega
  · simp [List.getElem?_eq_none (by omega : zs.length ≤ j)]
theorem bytes_of {H : Type} {enc : TypeId × Value → H} {W : World} {base b0 : Nat} {r : Reach} {v : Value} {d : DataW H} {p : List MemPlace}
    (hval : Value.okWide Tryz.prog W r b0 40 v) (h : DataW.Trod enc Tryz.prog W base (fun _ => true) true 40 v d p) :
    ∃ a n cap f, v = .slice a n cap ∧ GivenB W a n f := by
  obtain ⟨a0, len0, cap0, rfl⟩ := okWide_slice Tryz.underlying40 hval
  obtain ⟨fuel, hf⟩ := h
  rcases open_ints Tryz.underlying40 Tryz.underlying5 cellsByte hf with ⟨hcs, _⟩ | ⟨x, l, c, zs, hcs, _, hl, hm, hz, _, hcell, hwz⟩
  · simp [Value.cells] at hcs
    obtain ⟨rfl, rfl, rfl⟩ := hcs
    exact ⟨none, 0, 0, fun _ => 0, rfl, by omega, .inl rfl, fun _ => (by decide : (0 : Nat) < 256)⟩
  · simp [Value.cells] at hcs
    obtain ⟨rfl, rfl, rfl⟩ := hcs
    refine ⟨some x, len0, cap0, fun j => (zs[j]?.getD 0).toNat, rfl, by unfold maxLen at hm; omega, ?_, fun j => (by have := byte_range hwz j; omega : (zs[j]?.getD 0).toNat < 256)⟩
    have hz' : cap0 = zs.length := by simpa using hz.symm
    by_cases h0 : len0 = 0
    · exact .inl h0
    · obtain ⟨b, off, rfl, hc'⟩ := ints_at hcell (show 0 < zs.length by omega)
      refine .inr ⟨b, off, rfl, lt_of_cell (hc' 0 (by omega)), fun j hj => ?_⟩
      have hb := byte_range hwz j
      rw [hc' j (by omega), show (((zs[j]?.getD 0).toNat : Nat) : Int) = zs[j]?.getD 0 by omega]
      simp [List.getD]
theorem ops_of {H : Type} {enc : TypeId × Value → H} {W : World} {base b0 : Nat} {r : Reach} {v : Value} {d : DataW H} {p : List MemPlace}
    (hval : Value.okWide Tryz.prog W r b0 41 v) (h : DataW.Trod enc Tryz.prog W base (fun _ => true) true 41 v d p) :
    ∃ a n cap g, v = .slice a n cap ∧ GivenOps W a n g := by
  obtain ⟨a0, len0, cap0, rfl⟩ := okWide_slice Tryz.underlying41 hval
  obtain ⟨fuel, hf⟩ := h
  rcases DataW.trod_slice Tryz.underlying41 hf with ⟨hcs, _⟩ | ⟨x, l, c, elems, rest, n, _, hcs, _, _, hl, hm, hlen, hel, _⟩
  · simp [Value.cells] at hcs
    obtain ⟨rfl, rfl, rfl⟩ := hcs
    exact ⟨none, 0, 0, fun _ => ⟨0, 0, 0, 0⟩, rfl, by omega, .inl rfl, fun j hj => by omega⟩
  · simp [Value.cells] at hcs
    obtain ⟨rfl, rfl, rfl⟩ := hcs
    have key : ∀ j, j < len0 → ∃ q : Op4, (∀ z v, z < 4 → ([.int .i64 q.k, .int .i64 q.x, .int .i64 q.y, .int .i64 q.z] : List Value)[z]? = some v → W.cell? ((x.add (j * 4)).add z) = some v) ∧ inI q.k ∧ inI q.x ∧ inI q.y ∧ inI q.z := fun j hj => by
      have he := hel j hj
      rw [List.getElem?_eq_getElem (by omega)] at he
      obtain ⟨cs, hcs, ht⟩ := Option.bind_eq_some_iff.1 he
      rw [cellsOp] at hcs
      obtain ⟨_, _, hc⟩ := World.cells?_some hcs
      obtain ⟨k, x', y, z, q0, q1, q2, q3, i0, i1, i2, i3⟩ := op_cells Tryz.underlying26 ⟨rfl, rfl⟩ ⟨rfl, rfl⟩ ⟨rfl, rfl⟩ ⟨rfl, rfl⟩ Tryz.underlying3 cellsInt ht
      refine ⟨⟨k, x', y, z⟩, fun z v hz hv => (hc z hz).trans ?_, i0, i1, i2, i3⟩
      match z, hv with
      | 0, hv => rw [q0, ← hv]; rfl
      | 1, hv => rw [q1, ← hv]; rfl
      | 2, hv => rw [q2, ← hv]; rfl
      | 3, hv => rw [q3, ← hv]; rfl
    have hq : ∃ g : Nat → Op4, ∀ j, j < len0 → (∀ z v, z < 4 → ([.int .i64 (g j).k, .int .i64 (g j).x, .int .i64 (g j).y, .int .i64 (g j).z] : List Value)[z]? = some v → W.cell? ((x.add (j * 4)).add z) = some v) ∧ inI (g j).k ∧ inI (g j).x ∧ inI (g j).y ∧ inI (g j).z := by
      refine ⟨fun j => if hj : j < len0 then Classical.choose (key j hj) else ⟨0, 0, 0, 0⟩, fun j hj => ?_⟩
      simp only [hj, dif_pos]
      exact Classical.choose_spec (key j hj)
    obtain ⟨g, hg⟩ := hq
    refine ⟨some x, len0, cap0, g, rfl, by unfold maxLen at hm; omega, ?_, fun j hj => (hg j hj).2⟩
    by_cases h0 : len0 = 0
    · exact .inl h0
    · obtain ⟨b, off, spot⟩ := x
      have hspot : spot = none := by
        have := World.cell?_spot ((hg 0 (by omega)).1 0 _ (by omega) rfl)
        simpa [Addr.add] using this
      subst hspot
      have hc : ∀ j, j < len0 → ∀ z v, z < 4 → ([.int .i64 (g j).k, .int .i64 (g j).x, .int .i64 (g j).y, .int .i64 (g j).z] : List Value)[z]? = some v → W.cell? ⟨b, off + j * 4 + z, none⟩ = some v := fun j hj z v hz hv => by
        have := (hg j hj).1 z v hz hv
        rw [Addr.add_lit, Addr.add_lit] at this
        exact this
      exact .inr ⟨b, off, rfl, lt_of_cell (hc 0 (by omega) 0 _ (by omega) rfl), fun j hj => ⟨hc j hj 0 _ (by omega) rfl, hc j hj 1 _ (by omega) rfl, hc j hj 2 _ (by omega) rfl, hc j hj 3 _ (by omega) rfl⟩⟩
end Go.Proofs.YtbpkdihonemogaaGreatDoor
