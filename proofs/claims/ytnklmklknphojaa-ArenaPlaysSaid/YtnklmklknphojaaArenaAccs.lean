/- A slice of accesses that was read, as an argument: its cells. -/
import Derived.Test.YtnklmklknphojaaArenaFrame
namespace Go.Proofs.Ytnklmklknphojaa
open Go Go.ChangeShapes Go.WideShapes Go.ChangeAt Go.WideMaps Go.WideElems Go.RowKit
/-- The numbers of an access. -/
structure Acc where
  k : Int
  i : Int
  x : Int
  y : Int
  o : Int
/-- The five cells of an access. -/
def CellsAt (w : World) (b off : Nat) (q : Acc) : Prop :=
  w.cell? ⟨b, off, none⟩ = some (.int .i64 q.k) ∧ w.cell? ⟨b, off + 1, none⟩ = some (.int .i64 q.i) ∧ w.cell? ⟨b, off + 2, none⟩ = some (.int .u64 q.x) ∧ w.cell? ⟨b, off + 3, none⟩ = some (.int .u64 q.y) ∧ w.cell? ⟨b, off + 4, none⟩ = some (.int .u64 q.o)
/-- What a slice value of accesses holds, in a world. -/
def AccsAt (w : World) (a : Option Addr) (n : Nat) (g : Nat → Acc) : Prop :=
  n = 0 ∨ ∃ b off, a = some ⟨b, off, none⟩ ∧ b < w.heap.size ∧ ∀ j, j < n → CellsAt w b (off + j * 5) (g j)
theorem AccsAt.below {w w' : World} {a : Option Addr} {n : Nat} {g : Nat → Acc} (h : AccsAt w a n g) (hb : Below w.heap.size w w') : AccsAt w' a n g := by
  rcases h with h | ⟨b, off, h1, h2, h3⟩
  · exact .inl h
  · refine .inr ⟨b, off, h1, by have := hb.size; omega, fun j hj => ?_⟩
    have key : ∀ z, w'.cell? ⟨b, z, none⟩ = w.cell? ⟨b, z, none⟩ := fun z => hb.cell (p := ⟨b, z, none⟩) h2
    obtain ⟨c0, c1, c2, c3, c4⟩ := h3 j hj
    exact ⟨(key _).trans c0, (key _).trans c1, (key _).trans c2, (key _).trans c3, (key _).trans c4⟩
theorem AccsAt.at' {w : World} {a : Option Addr} {n : Nat} {g : Nat → Acc} (h : AccsAt w a n g) {j : Nat} (hj : j < n) : ∃ b off, a = some ⟨b, off, none⟩ ∧ b < w.heap.size ∧ CellsAt w b (off + j * 5) (g j) := by
  rcases h with h | ⟨b, off, h1, h2, h3⟩
  · omega
  · exact ⟨b, off, h1, h2, h3 j hj⟩
/-- Accesses that were handed in. -/
def GivenAccs (W : World) (a : Option Addr) (n : Nat) (g : Nat → Acc) : Prop := n ≤ 9223372036854775807 ∧ AccsAt W a n g ∧ ∀ j, j < n → U64 (g j).x ∧ U64 (g j).y
theorem cellsAcc : Try.prog.cellsOf 31 = 5 := by kernel_rfl
theorem cellsInt : Try.prog.cellsOf 3 = 1 := by kernel_rfl
theorem acc_cells {H : Type} {enc : TypeId × Value → H} {P : Program} {w : World} {bs : Nat} {sp : Nat → Bool} {held : Bool} {fuel : Nat} {t ti tw : TypeId} {f0 f1 f2 f3 f4 : Field} {cs : List Value} {z : DataW H × List MemPlace}
    (ht : P.underlying t = some (.struct #[f0, f1, f2, f3, f4])) (e0 : f0.type = ti ∧ f0.offset = 0) (e1 : f1.type = ti ∧ f1.offset = 1) (e2 : f2.type = tw ∧ f2.offset = 2) (e3 : f3.type = tw ∧ f3.offset = 3) (e4 : f4.type = tw ∧ f4.offset = 4)
    (hi : P.underlying ti = some (.int .i64)) (hw : P.underlying tw = some (.int .u64)) (cI : P.cellsOf ti = 1) (cW : P.cellsOf tw = 1) (h : DataW.trod enc P w bs sp held fuel t cs = some z) :
    ∃ q : Acc, cs[0]? = some (.int .i64 q.k) ∧ cs[1]? = some (.int .i64 q.i) ∧ cs[2]? = some (.int .u64 q.x) ∧ cs[3]? = some (.int .u64 q.y) ∧ cs[4]? = some (.int .u64 q.o) ∧ U64 q.x ∧ U64 q.y := by
  obtain ⟨xs, n, _, _, _, hl, hf⟩ := DataW.trod_struct ht h
  have g0 := hf 0 f0 rfl
  have g1 := hf 1 f1 rfl
  have g2 := hf 2 f2 rfl
  have g3 := hf 3 f3 rfl
  have g4 := hf 4 f4 rfl
  simp only [e0.1, e0.2, e1.1, e1.2, e2.1, e2.2, e3.1, e3.2, e4.1, e4.2, cI, cW] at g0 g1 g2 g3 g4
  have hl' : xs.length = 5 := hl
  match xs, hl' with
  | [y0, y1, y2, y3, y4], _ =>
    obtain ⟨a, c0, _, _⟩ := DataW.trod_int hi (g0.trans rfl)
    obtain ⟨b, c1, _, _⟩ := DataW.trod_int hi (g1.trans rfl)
    obtain ⟨c, c2, _, w2⟩ := DataW.trod_int hw (g2.trans rfl)
    obtain ⟨d, c3, _, w3⟩ := DataW.trod_int hw (g3.trans rfl)
    obtain ⟨e, c4, _, _⟩ := DataW.trod_int hw (g4.trans rfl)
    have k0 := congrArg (·[0]?) c0
    have k1 := congrArg (·[0]?) c1
    have k2 := congrArg (·[0]?) c2
    have k3 := congrArg (·[0]?) c3
    have k4 := congrArg (·[0]?) c4
    simp [List.getElem?_drop] at k0 k1 k2 k3 k4
    exact ⟨⟨a, b, c, d, e⟩, k0, k1, k2, k3, k4, u64_of w2, u64_of w3⟩
theorem accs_of {H : Type} {enc : TypeId × Value → H} {W : World} {base b0 : Nat} {r : Reach} {v : Value} {d : DataW H} {p : List MemPlace}
    (hval : Value.okWide Try.prog W r b0 23 v) (h : DataW.Trod enc Try.prog W base (fun _ => true) true 23 v d p) :
    ∃ a n cap g, v = .slice a n cap ∧ GivenAccs W a n g := by
  obtain ⟨a0, len0, cap0, rfl⟩ := okWide_slice Try.underlying23 hval
  obtain ⟨fuel, hf⟩ := h
  rcases DataW.trod_slice Try.underlying23 hf with ⟨hcs, _⟩ | ⟨x, l, c, elems, rest, n, _, hcs, _, _, hl, hm, hlen, hel, _⟩
  · simp [Value.cells] at hcs
    obtain ⟨rfl, rfl, rfl⟩ := hcs
    exact ⟨none, 0, 0, fun _ => ⟨0, 0, 0, 0, 0⟩, rfl, by omega, .inl rfl, fun j hj => by omega⟩
  · simp [Value.cells] at hcs
    obtain ⟨rfl, rfl, rfl⟩ := hcs
    have key : ∀ j, j < len0 → ∃ q : Acc, (∀ z v, z < 5 → ([.int .i64 q.k, .int .i64 q.i, .int .u64 q.x, .int .u64 q.y, .int .u64 q.o] : List Value)[z]? = some v → W.cell? ((x.add (j * 5)).add z) = some v) ∧ U64 q.x ∧ U64 q.y := fun j hj => by
      have he := hel j hj
      rw [List.getElem?_eq_getElem (by omega)] at he
      obtain ⟨cs, hcs, ht⟩ := Option.bind_eq_some_iff.1 he
      rw [cellsAcc] at hcs
      obtain ⟨_, _, hc⟩ := World.cells?_some hcs
      obtain ⟨q, q0, q1, q2, q3, q4, u1, u2⟩ := acc_cells Try.underlying31 ⟨rfl, rfl⟩ ⟨rfl, rfl⟩ ⟨rfl, rfl⟩ ⟨rfl, rfl⟩ ⟨rfl, rfl⟩ Try.underlying3 Try.underlying29 cellsInt cellsWord ht
      refine ⟨q, fun z v hz hv => (hc z hz).trans ?_, u1, u2⟩
      match z, hv with
      | 0, hv => rw [q0, ← hv]; rfl
      | 1, hv => rw [q1, ← hv]; rfl
      | 2, hv => rw [q2, ← hv]; rfl
      | 3, hv => rw [q3, ← hv]; rfl
      | 4, hv => rw [q4, ← hv]; rfl
    have hq : ∃ g : Nat → Acc, ∀ j, j < len0 → (∀ z v, z < 5 → ([.int .i64 (g j).k, .int .i64 (g j).i, .int .u64 (g j).x, .int .u64 (g j).y, .int .u64 (g j).o] : List Value)[z]? = some v → W.cell? ((x.add (j * 5)).add z) = some v) ∧ U64 (g j).x ∧ U64 (g j).y := by
      refine ⟨fun j => if hj : j < len0 then Classical.choose (key j hj) else ⟨0, 0, 0, 0, 0⟩, fun j hj => ?_⟩
      simp only [hj, dif_pos]
      exact Classical.choose_spec (key j hj)
    obtain ⟨g, hg⟩ := hq
    refine ⟨some x, len0, cap0, g, rfl, by unfold maxLen at hm; omega, ?_, fun j hj => (hg j hj).2⟩
    by_cases h0 : len0 = 0
    · exact .inl h0
    · obtain ⟨b, off, spot⟩ := x
      have hspot : spot = none := by
        have := World.cell?_spot ((hg 0 (by omega)).1 0 _ (by omega) rfl)
        simpa [Addr.add] using this
      subst hspot
      have hc : ∀ j, j < len0 → ∀ z v, z < 5 → ([.int .i64 (g j).k, .int .i64 (g j).i, .int .u64 (g j).x, .int .u64 (g j).y, .int .u64 (g j).o] : List Value)[z]? = some v → W.cell? ⟨b, off + j * 5 + z, none⟩ = some v := fun j hj z v hz hv => by
        have := (hg j hj).1 z v hz hv
        rw [Addr.add_lit, Addr.add_lit] at this
        exact this
      exact .inr ⟨b, off, rfl, lt_of_cell (hc 0 (by omega) 0 _ (by omega) rfl), fun j hj => ⟨hc j hj 0 _ (by omega) rfl, hc j hj 1 _ (by omega) rfl, hc j hj 2 _ (by omega) rfl, hc j hj 3 _ (by omega) rfl, hc j hj 4 _ (by omega) rfl⟩⟩
end Go.Proofs.Ytnklmklknphojaa
