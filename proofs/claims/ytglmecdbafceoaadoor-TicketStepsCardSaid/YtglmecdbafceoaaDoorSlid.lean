/- A row of integers that grows at its end and is cut at its front (a queue): order = append(order, i); order = order[1:]. -/
import Derived.Test.YtglmecdbafceoaaDoorHandNew
import Derived.Deep.AppendLies
import Derived.Deep.AppendSrc
namespace Go.Proofs.YtglmecdbafceoaaDoor
open Go Go.RowKit
set_option maxRecDepth 100000

/-- A slice whose elements are the numbers of a list, behind the block base; its first element may lie anywhere in its block. -/
def Slid (w : World) (base : Nat) (v : Value) (l : List Nat) : Prop :=
  (v = .slice none 0 0 ∧ l = []) ∨ ∃ g o cap cur, v = .slice (some ⟨g, o, none⟩) l.length cap ∧ base ≤ g ∧ w.heap[g]? = some (.cells cur 3 (0, 0)) ∧ l.length ≤ cap ∧ o + cap ≤ cur.size ∧ ∀ (j i : Nat), l[j]? = some i → cur[o + j]? = some (.int .i64 (i : Int))
namespace Slid
variable {w w' : World} {base : Nat} {v : Value} {l : List Nat}
theorem nil (w : World) (base : Nat) : Slid w base (.slice none 0 0) [] := .inl ⟨rfl, rfl⟩
theorem form (h : Slid w base v l) : ∃ a cap, v = .slice a l.length cap := by
  rcases h with ⟨rfl, rfl⟩ | ⟨g, o, cap, cur, rfl, _⟩
  · exact ⟨none, 0, rfl⟩
  · exact ⟨_, cap, rfl⟩
theorem form3 (h : Slid w base v l) : ∃ a n c, v = .slice a n c := by
  obtain ⟨a, c, h⟩ := h.form; exact ⟨a, _, c, h⟩
theorem own (h : Slid w base v l) {j : Nat} (hj : v.ownBlock = some j) : base ≤ j ∧ j < w.heap.size := by
  rcases h with ⟨rfl, rfl⟩ | ⟨g, o, cap, cur, rfl, hb, hg, _⟩
  · cases hj
  · cases hj; exact ⟨hb, (Array.getElem?_eq_some_iff.1 hg).1⟩
theorem other (h : Slid w base v l) (e : ∀ j, v.ownBlock = some j → w'.heap[j]? = w.heap[j]?) : Slid w' base v l := by
  rcases h with h | ⟨g, o, cap, cur, rfl, hb, hg, h1⟩
  · exact .inl h
  · exact .inr ⟨g, o, cap, cur, rfl, hb, (e g rfl).trans hg, h1⟩
theorem below (h : Slid w base v l) (hb : Below w.heap.size w w') : Slid w' base v l := h.other (fun j hj => hb.block j (h.own hj).2)
/-- The first element. -/
theorem head {x : Nat} (h : Slid w base v (x :: l)) : ∃ g o cap, v = .slice (some ⟨g, o, none⟩) (l.length + 1) cap ∧ l.length + 1 ≤ cap ∧ g < w.heap.size ∧ w.cell? ⟨g, o, none⟩ = some (.int .i64 (x : Int)) ∧
    Slid w base (.slice (some (if cap = 1 then ⟨g, o, none⟩ else ⟨g, o + 1, none⟩)) l.length (cap - 1)) l := by
  rcases h with ⟨_, h⟩ | ⟨g, o, cap, cur, rfl, hb, hg, hl, hc, hcur⟩
  · cases h
  · have hl : l.length + 1 ≤ cap := hl
    refine ⟨g, o, cap, rfl, hl, (Array.getElem?_eq_some_iff.1 hg).1, ?_, ?_⟩
    · have := hcur 0 x rfl
      rw [Nat.add_zero] at this
      simp [World.cell?, hg, this]
    · by_cases h1 : cap = 1
      · rw [if_pos h1]
        have h0 : l = [] := by cases l with
          | nil => rfl
          | cons a t => simp at hl; omega
        subst h0
        exact .inr ⟨g, o, cap - 1, cur, rfl, hb, hg, by simp, by omega, fun j i hj => by simp at hj⟩
      · rw [if_neg h1]
        exact .inr ⟨g, o + 1, cap - 1, cur, rfl, hb, hg, by omega, by omega, fun j i hj => by
          have := hcur (j + 1) i hj
          rwa [show o + 1 + j = o + (j + 1) by omega]⟩
end Slid
section
variable {P : Program}
/-- One more. -/
theorem run_append_slid {w : World} {base : Nat} {v : Value} {l : List Nat} (hown : Slid w base v l) (t ty : TypeId) (i : TypeInfo) (ht : P.underlying t = some (.slice 3)) (hi : P.info? 3 = some i) (hz : i.zero = some (.int .i64 0)) (hsize : i.size = 1) (hby : i.bytes = 8)
    (b off c x : Nat) (hx : w.cell? ⟨b, off, none⟩ = some (.int .i64 (x : Int))) (hlen : l.length ≤ 100000) (hbase : base ≤ w.heap.size) :
    ∃ v' w', (Builtin.append_ #[t, t] ty #[v, .slice (some ⟨b, off, none⟩) 1 c]).run P w = .ok v' w' ∧ Slid w' base v' (l ++ [x]) ∧ Sav (fun j => v.ownBlock = some j) w w' ∧ (v'.ownBlock = v.ownBlock ∨ v'.ownBlock = some w.heap.size) := by
  have hnews : ∀ j u, ([.int .i64 (x : Int)] : List Value)[j]? = some u → w.cell? ((⟨b, off, none⟩ : Addr).add j) = some u := by
    intro j u hj
    cases j with
    | zero => simp at hj; rw [Addr.add_lit, Nat.add_zero, hx, hj]
    | succ j => simp at hj
  have hs : Src P i.size t (.slice (some ⟨b, off, none⟩) 1 c) 1 [.int .i64 (x : Int)] w := Src.ofSlice w ht ⟨b, off, none⟩ 1 c _ (by rw [hsize]; rfl) hnews (by simp [Value.oneCell'])
  have grow : ∀ (a : Option Addr) (cap : Nat), v = .slice a l.length cap → cap < l.length + 1 → (Builtin.firstCells i.size l.length v).run P w.drew = .ok ((l.map (fun y : Nat => Value.int .i64 (y : Int)))).toArray w.drew →
      ∃ v' w', (Builtin.append_ #[t, t] ty #[v, .slice (some ⟨b, off, none⟩) 1 c]).run P w = .ok v' w' ∧ Slid w' base v' (l ++ [x]) ∧ Sav (fun j => v.ownBlock = some j) w w' ∧ (v'.ownBlock = v.ownBlock ∨ v'.ownBlock = some w.heap.size) := by
    intro a cap hv hcap hold
    subst hv
    have hg := grownCap_ge w (l.length + 1) cap 3
    have hncap : Builtin.nextslicecap (l.length + 1) cap * i.bytes ≤ 281474976710656 := by
      exact growslice_fits hcap (by rw [hby]; omega)
    refine ⟨_, _, run_append_grow_src w t t ty 3 i (.int .i64 0) ht hi hz a l.length cap _ hold _ 1 _ hs hcap (by omega) hncap, ?_, ?_, .inr rfl⟩
    · right
      refine ⟨w.heap.size, 0, _, _, by rw [List.length_append]; rfl, hbase, newBlock _ _, by rw [List.length_append]; exact hg, ?_, ?_⟩
      · simp [size_zeroCells, Value.cells]
        omega
      · intro j y hj
        rw [Nat.zero_add]
        have hlt := (List.getElem?_eq_some_iff.1 hj).1
        rw [Array.getElem?_append, if_pos (by simp at hlt ⊢; omega)]
        have : (l.map (fun y : Nat => Value.int .i64 (y : Int)) ++ [Value.int .i64 (x : Int)])[j]? = some (.int .i64 (y : Int)) := by
          have h2 : ((l ++ [x]).map (fun y : Nat => Value.int .i64 (y : Int)))[j]? = some (.int .i64 (y : Int)) := by rw [List.getElem?_map, hj]; rfl
          simpa using h2
        simpa using this
    · exact ⟨rfl, rfl, rfl, by show w.heap.size ≤ (w.drew.alloc _).heap.size; rw [World.size_alloc]; exact Nat.le_succ _, fun k hk _ => by
        show (w.drew.alloc _).heap[k]? = w.heap[k]?
        exact Below.heap_alloc w.drew _ k hk⟩
  rcases hown with ⟨rfl, rfl⟩ | ⟨g, o, cap, cur, rfl, hb, hg, hl, hc, hcur⟩
  · exact grow none 0 rfl (by simp) (by simp [Builtin.firstCells])
  · by_cases hroom : l.length + 1 ≤ cap
    · have hcell : (w.cell? ⟨g, o + l.length * i.size + 0, none⟩).isSome = true := by
        rw [hsize, Nat.mul_one, Nat.add_zero]
        simp only [World.cell?, hg]
        have : o + l.length < cur.size := by omega
        simp [this]
      refine ⟨_, _, run_append_room_src w t t ty 3 i ht hi g o l.length cap _ 1 _ hs hroom (fun j hj => ?_) (fun j hj => ?_), ?_, ?_, .inl rfl⟩
      · simp at hj; subst hj; exact hcell
      · simp [World.frozen?, hg]
      · right
        refine ⟨g, o, cap, cur.setIfInBounds (o + l.length) (.int .i64 (x : Int)), by rw [List.length_append]; rfl, hb, ?_, by rw [List.length_append]; exact hroom, by simpa using hc, ?_⟩
        · rw [hsize, Nat.mul_one]
          simp [World.setCells, World.setCell, Array.getElem?_modify, hg]
        · intro j y hj
          rw [Array.getElem?_setIfInBounds]
          by_cases e : j = l.length
          · subst e
            rw [if_pos rfl, if_pos (by omega)]
            simp at hj
            rw [hj]
          · rw [if_neg (by omega)]
            rw [List.getElem?_append] at hj
            by_cases hlt : j < l.length
            · rw [if_pos hlt] at hj; exact hcur j y hj
            · rw [if_neg hlt] at hj
              have := (List.getElem?_eq_some_iff.1 hj).1
              simp at this; omega
      · refine ⟨rfl, rfl, rfl, by simp [World.setCells, World.setCell], fun k hk hne => ?_⟩
        have hne : ¬ some g = some k := hne
        simp only [World.setCells]
        exact Below.heap_setCell _ _ _ _ (fun e => hne (by rw [e]))
    · refine grow _ cap rfl (by omega) ?_
      refine run_firstCells_some w.drew i.size l.length ⟨g, o, none⟩ l.length cap _ (by rw [hsize]; simp) (fun j u hj => ?_)
      rw [List.getElem?_map] at hj
      cases hy : l[j]? with
      | none => rw [hy] at hj; simp at hj
      | some y =>
        rw [hy] at hj
        simp at hj
        subst hj
        have := hcur j y hy
        rw [show ((⟨g, o, none⟩ : Addr).add j) = ⟨g, o + j, none⟩ from Addr.add_lit ..]
        show w.cell? ⟨g, o + j, none⟩ = _
        simp [World.cell?, hg, this]
/-- .. for the walk. -/
theorem wpList_append_slid (w : World) {ops : Array Oper} {rest : List Oper} {o : Oper} {a : Act} {Q : Exit → Act → World → Prop} (hgd : o.guard = none) (s x : Operand) (t : TypeId)
    (ho : o.op = .call { callee := .builtin .append, args := #[s, x], argTypes := #[t, t] })
    (base : Nat) (i : TypeInfo) (ht : P.underlying t = some (.slice 3)) (hi : P.info? 3 = some i) (hz : i.zero = some (.int .i64 0)) (hsize : i.size = 1) (hby : i.bytes = 8)
    (v : Value) (l : List Nat) (hs : a.eval s = v) (hown : Slid w base v l) (b off c y : Nat) (hx : a.eval x = .slice (some ⟨b, off, none⟩) 1 c) (hc : w.cell? ⟨b, off, none⟩ = some (.int .i64 (y : Int))) (hlen : l.length ≤ 100000) (hbase : base ≤ w.heap.size)
    (h : ∀ v' w', Slid w' base v' (l ++ [y]) → Sav (fun j => v.ownBlock = some j) w w' → (v'.ownBlock = v.ownBlock ∨ v'.ownBlock = some w.heap.size) → wpList P ops Q rest (a.put o.dst v') w') : wpList P ops Q (o :: rest) a w := by
  refine wpList_plain hgd fun K hK => ?_
  obtain ⟨v', w', hrun, h1, h2, h3⟩ := run_append_slid (P := P) hown t o.type i ht hi hz hsize hby b off c y hc hlen hbase
  unfold Oper.wp
  simp [execOp, ho, resolve, invoke, builtin, hs, hx, hrun, Result.andThen]
  exact hK _ _ (h v' w' h1 h2 h3)
end
end Go.Proofs.YtglmecdbafceoaaDoor
