/- Taking a cell off a list, without memory: each line's step, and how it goes from the line 34 to its end. -/
import Derived.Test.YtgjbabndpmkccaaDoorPopRef
import Derived.Test.YtgjbabndpmkccaaDoorPopList
namespace Go.Proofs.YtgjbabndpmkccaaDoor
open Go Go.RowKit
set_option maxRecDepth 100000

theorem words_load (n : Nat) (f : Nat → Int) (i : Int) : wordsQ n f 1 i 0 0 = f := by
  unfold wordsQ
  by_cases h : okD n 1 i
  · rw [if_pos h]; rfl
  · rw [if_neg h]
theorem words_store (n : Nat) (f : Nat → Int) (i x : Int) (h : 0 ≤ i ∧ i < n) : wordsQ n f 2 i x 0 = upd f i.toNat x := by
  unfold wordsQ
  rw [if_pos (show okD n 2 i from ⟨by omega, by omega, h.1, h.2⟩)]; rfl
theorem z5_in {n : Nat} {k i : Int} (v : Int) (hk : 1 ≤ k ∧ k ≤ 4) (h : 0 ≤ i ∧ i < n) : z5 n k i v = v := by
  unfold z5
  rw [if_pos (show okD n k i from ⟨hk.1, hk.2, h.1, h.2⟩)]
theorem field_cell {a b c d : Int} {i : Nat} (hi : i < 4096) (p : Int) (hp : 0 ≤ p ∧ p ≤ 2) : fieldP a b c d (2 * i + 1) p = partP a b c d p (i : Int) := by
  unfold fieldP
  rw [if_pos ⟨⟨by omega, by omega⟩, hp⟩, show (2 * i + 1) / 2 = i by omega]
theorem cell_isC {i : Nat} (h : i < 4096) : isC (2 * i + 1) := ⟨by omega, by omega⟩
theorem pop34 (C : Cf) (hn : 0 < C.n) (s : Dy) (m : Mu) (hl : m.l = 34) : popS C s m = (⟨s.f, 1, 0, 0, 0, s.f 0⟩, { m with l := 35, m3 := s.f 0 }, false, true) := by
  unfold popS
  rw [if_pos hl, z5_in (s.f 0) (by omega) (by omega)]
  unfold Dy.act
  rw [words_load, z5_in _ (by omega) (by omega), z5_in _ (by omega) (by omega), z5_in _ (by omega) (by omega)]
  rfl
/-- Where the configuration's numbers fit the number of words. -/
structure CfOK (C : Cf) : Prop where
  right : Right C.a C.b C.c C.d
  size : (C.n : Int) = 5 + C.b + C.d + C.b * C.c + 3 * C.a
theorem CfOK.pos {C : Cf} (h : CfOK C) : 0 < C.n := by have := h.right.prod; have h1 := h.right; have h2 := h.size; unfold Right at h1; omega
theorem CfOK.cdr {C : Cf} (h : CfOK C) {i : Nat} (hi : (i : Int) < C.a) : fieldP C.a C.b C.c C.d (2 * i + 1) 1 = (cdrP C.b C.c C.d i : Int) ∧ cdrP C.b C.c C.d i < C.n ∧ 5 ≤ cdrP C.b C.c C.d i := by
  have h1 := cdrP_part h.right hi
  have h2 := h.right
  have h3 := h.size
  unfold Right at h2
  refine ⟨by rw [field_cell (by omega) 1 (by omega)]; exact h1.1, by omega, h1.2.2⟩
theorem pop35 (C : Cf) (h : CfOK C) (s : Dy) (m : Mu) (hl : m.l = 35) {i : Nat} (hi : (i : Int) < C.a) (h3 : m.m3 = 2 * (i : Int) + 1) :
    popS C s m = (⟨s.f, 1, cdrP C.b C.c C.d i, 0, 0, nxF C.b C.c C.d s.f i⟩, (if isC (nxF C.b C.c C.d s.f i).toNat then { m with l := 36, m4 := nxF C.b C.c C.d s.f i } else { m with l := 41, m4 := nxF C.b C.c C.d s.f i, rt := 5 }), !decide (isC (nxF C.b C.c C.d s.f i).toNat), true) := by
  obtain ⟨e1, e2, _⟩ := h.cdr hi
  have e3 : m.m3.toNat = 2 * i + 1 := by omega
  have hN : popN C s m = nxF C.b C.c C.d s.f i := by
    unfold popN
    rw [e3, e1, z5_in _ (by omega) (by omega)]
    rfl
  unfold popS
  rw [if_neg (by omega), if_pos hl]
  simp only [hN, e3, e1]
  unfold Dy.act
  rw [words_load, z5_in _ (by omega) (by omega), z5_in _ (by omega) (by omega), z5_in _ (by omega) (by omega), z5_in _ (by omega) (by omega)]
  rfl
theorem pop36 (C : Cf) (hn : 0 < C.n) (s : Dy) (m : Mu) (hl : m.l = 36) (h4 : isC m.m4.toNat) (h40 : 0 ≤ m.m4) : popS C s m = (⟨upd s.f 0 m.m4, 2, 0, m.m4, 0, s.f 0⟩, { m with l := 80, p := m.m4, bk := 37 }, true, true) := by
  unfold popS
  rw [if_neg (by omega), if_neg (by omega), if_pos hl]
  unfold begL begP begB Dy.act
  rw [words_store _ _ _ _ (by omega), if_pos h4, if_pos h4, if_pos h4, z5_in _ (by omega) (by omega), z5_in _ (by omega) (by omega), z5_in _ (by omega) (by omega), z5_in _ (by omega) (by omega), Int.toNat_of_nonneg h40]
  rfl
/-- A mutator that has nothing but a line, a first cell, the next one, what is to be shaded, where it goes on, and a result. -/
abbrev hM (l h n p bk rt : Int) : Mu := ⟨l, 0, 0, 0, 0, 0, 0, h, n, 0, p, bk, rt⟩
/-- How far taking the cell i is, behind which is u: k steps, of which lin were linearising ones. -/
def TkSt (f : Nat → Int) (i : Nat) (u : Nat) (k : Nat) (lin : Int) (s : Dy) (m : Mu) : Prop :=
  (k = 0 ∧ lin = 0 ∧ s.f = f ∧ m = hM 34 0 0 0 0 0) ∨ (k = 1 ∧ lin = 0 ∧ s.f = f ∧ m = hM 35 (2 * (i : Int) + 1) 0 0 0 0) ∨
  (k = 2 ∧ lin = 0 ∧ s.f = f ∧ m = hM 36 (2 * (i : Int) + 1) u 0 0 0 ∧ isC u) ∨ (k = 2 ∧ lin = 1 ∧ s.f = f ∧ m = hM 41 (2 * (i : Int) + 1) u 0 0 5 ∧ ¬ isC u) ∨
  (k = 3 ∧ lin = 1 ∧ s.f = upd f 0 u ∧ m = hM 80 (2 * (i : Int) + 1) u u 37 0 ∧ isC u)
theorem TkSt.U {f : Nat → Int} (hf : ∀ j, U64 (f j)) {i u k : Nat} {lin : Int} (hi : i < 4096) (hu : u < 18446744073709551616) {s : Dy} {m : Mu} (h : TkSt f i u k lin s m) : s.U ∧ m.U := by
  have h0 := u64_zero
  have hw : U64 (2 * (i : Int) + 1) := by unfold U64; omega
  have hu2 : U64 (u : Int) := by unfold U64; omega
  rcases h with ⟨_, _, e, rfl⟩ | ⟨_, _, e, rfl⟩ | ⟨_, _, e, rfl, _⟩ | ⟨_, _, e, rfl, _⟩ | ⟨_, _, e, rfl, _⟩
  · exact ⟨fun j => by rw [e]; exact hf j, h0, h0, h0, h0, h0, h0⟩
  · exact ⟨fun j => by rw [e]; exact hf j, h0, h0, hw, h0, h0, h0⟩
  · exact ⟨fun j => by rw [e]; exact hf j, h0, h0, hw, hu2, h0, h0⟩
  · exact ⟨fun j => by rw [e]; exact hf j, h0, h0, hw, hu2, h0, h0⟩
  · exact ⟨fun j => by rw [e]; exact upd_u64 hf 0 hu2 j, h0, h0, hw, hu2, h0, hu2⟩
theorem TkSt.go {C : Cf} (hC : CfOK C) {f : Nat → Int} {i u k : Nat} {lin : Int} (hi : (i : Int) < C.a) (hf0 : f 0 = 2 * (i : Int) + 1) (hu : nxF C.b C.c C.d f i = u) {s : Dy} {m : Mu} (h : TkSt f i u k lin s m) (hk : k < 3) (h1 : 34 ≤ m.l) (h2 : m.l ≤ 36) :
    ∃ s' m' b, popS C s m = (s', m', b, true) ∧ TkSt f i u (k + 1) (lin + if b then 1 else 0) s' m' := by
  obtain ⟨sf, sk, si, sx, sy, so⟩ := s
  rcases h with ⟨rfl, rfl, e, rfl⟩ | ⟨rfl, rfl, e, rfl⟩ | ⟨rfl, rfl, e, rfl, hc⟩ | ⟨rfl, rfl, e, rfl, hc⟩ | ⟨rfl, rfl, e, rfl, hc⟩
  · dsimp only at e; subst e
    refine ⟨_, _, _, pop34 C hC.pos _ _ rfl, .inr (.inl ⟨rfl, rfl, rfl, ?_⟩)⟩
    dsimp only; rw [hf0]
  · dsimp only at e; subst e
    have hp := pop35 C hC ⟨sf, sk, si, sx, sy, so⟩ (hM 35 (2 * (i : Int) + 1) 0 0 0 0) rfl hi rfl
    dsimp only at hp
    simp only [hu, Int.toNat_natCast] at hp
    by_cases hc : isC u
    · rw [if_pos hc, decide_eq_true hc] at hp
      exact ⟨_, _, _, hp, .inr (.inr (.inl ⟨rfl, rfl, rfl, rfl, hc⟩))⟩
    · rw [if_neg hc, decide_eq_false hc] at hp
      exact ⟨_, _, _, hp, .inr (.inr (.inr (.inl ⟨rfl, rfl, rfl, rfl, hc⟩)))⟩
  · dsimp only at e; subst e
    refine ⟨_, _, _, pop36 C hC.pos _ _ rfl (by simpa using hc) (by dsimp only; omega), .inr (.inr (.inr (.inr ⟨rfl, rfl, rfl, rfl, hc⟩)))⟩
  · exact absurd h2 (by dsimp only; omega)
  · omega
theorem TkSt.lin {f : Nat → Int} {i u k : Nat} {lin : Int} {s : Dy} {m : Mu} (h : TkSt f i u k lin s m) : 0 ≤ lin ∧ lin ≤ 1 := by
  rcases h with ⟨rfl, rfl, _⟩ | ⟨rfl, rfl, _⟩ | ⟨rfl, rfl, _⟩ | ⟨rfl, rfl, _⟩ | ⟨rfl, rfl, _⟩ <;> omega
/-- Where it ends. -/
theorem TkSt.ends {f : Nat → Int} {i u k : Nat} {lin : Int} {s : Dy} {m : Mu} (h : TkSt f i u k lin s m) (hk : ¬ (k < 3 ∧ 34 ≤ m.l ∧ m.l ≤ 36)) :
    lin = 1 ∧ ((k = 2 ∧ s.f = f ∧ m = hM 41 (2 * (i : Int) + 1) u 0 0 5 ∧ ¬ isC u) ∨ (k = 3 ∧ s.f = upd f 0 u ∧ m = hM 80 (2 * (i : Int) + 1) u u 37 0 ∧ isC u)) := by
  rcases h with ⟨rfl, rfl, e, rfl⟩ | ⟨rfl, rfl, e, rfl⟩ | ⟨rfl, rfl, e, rfl, hc⟩ | ⟨rfl, rfl, e, rfl, hc⟩ | ⟨rfl, rfl, e, rfl, hc⟩
  · exact absurd ⟨by omega, by dsimp only; omega, by dsimp only; omega⟩ hk
  · exact absurd ⟨by omega, by dsimp only; omega, by dsimp only; omega⟩ hk
  · exact absurd ⟨by omega, by dsimp only; omega, by dsimp only; omega⟩ hk
  · exact ⟨rfl, .inl ⟨rfl, e, rfl, hc⟩⟩
  · exact ⟨rfl, .inr ⟨rfl, e, rfl, hc⟩⟩
/-- A list's first cell, the word behind it, and the rest. -/
theorem chain_last {nx : Nat → Int} {a i : Nat} {u : Nat} {L : List Nat} (ha : a ≤ 4096) (h : ChainL nx a (nx i) L) (hu : nx i = u) (hc : ¬ isC u) : L = [] := by
  cases L with
  | nil => rfl
  | cons j l =>
    have h1 := h.1
    have h2 := h.2.1
    exact absurd (by unfold isC; omega : isC u) hc
theorem chain_more {nx : Nat → Int} {a i : Nat} {u : Nat} {L : List Nat} (h : ChainL nx a (nx i) L) (hu : nx i = u) (hc : isC u) : ∃ j l, L = j :: l ∧ u = 2 * j + 1 ∧ j < a := by
  cases L with
  | nil => have h1 : nx i = 0 := h; unfold isC at hc; omega
  | cons j l => exact ⟨j, l, rfl, by have := h.1; omega, h.2.1⟩
/-- Behind taking it the list is that of the others. -/
theorem chain_taken {b c d : Int} {a : Nat} {f : Nat → Int} {u : Int} {L : List Nat} (h : ChainL (nxF b c d f) a u L) (h5 : ∀ j, j < a → 5 ≤ cdrP b c d j) : ChainL (nxF b c d (upd f 0 u)) a ((upd f 0 u) 0) L := by
  have e : (upd f 0 u) 0 = u := rfl
  rw [e]
  refine h.congr (fun j hj => ?_)
  have := h5 j (h.lt hj)
  unfold nxF upd
  rw [if_neg (by omega)]
/-- A hand and a mutator in blocks behind what was there. -/
structure TkW (w W : World) (H A G B : Nat) (C : Cf) (s : Dy) (m : Mu) : Prop where
  old : Below w.heap.size w W
  hand : HAt W H A G C s
  mu : MuAt W B m
  lo : w.heap.size ≤ H ∧ w.heap.size ≤ G ∧ w.heap.size ≤ B
  ne : B ≠ H ∧ B ≠ A ∧ B ≠ G
theorem TkW.below {w W V : World} {H A G B : Nat} {C : Cf} {s : Dy} {m : Mu} (h : TkW w W H A G B C s m) (hb : Below W.heap.size W V) : TkW w V H A G B C s m := ⟨belowOn h.old hb, h.hand.below hb, h.mu.below hb, h.lo, h.ne⟩
theorem TkW.step {w W V : World} {H A G B : Nat} {C : Cf} {s s' : Dy} {m : Mu} (h : TkW w W H A G B C s m) {v : Value} {e : Ending} (hp : HP W H A G C s' v e V) : e = .returned v ∧ TkW w V H A G B C s' m :=
  ⟨hp.1, hp.2.2.old h.old h.lo.1 h.lo.2.1, hp.2.1, Mut13.savH h.mu hp.2.2 h.ne.1 h.ne.2.2, h.lo, h.ne⟩
theorem TkW.put {w W : World} {H A G B : Nat} {C : Cf} {s : Dy} {m : Mu} (h : TkW w W H A G B C s m) (m' : Mu) : TkW w (put13 W B m'.l m'.p m'.bk m'.q1 m'.q2 m'.q3 m'.q4 m'.m1 m'.m2 m'.m3 m'.m4 m'.m5 m'.rt) H A G B C s m' :=
  ⟨((Sav.of (S := fun _ => False) h.old).put13 (.inr h.lo.2.2) _ _ _ _ _ _ _ _ _ _ _ _ _).below (Nat.le_refl _) (fun _ _ e => e), h.hand.put13 h.ne.1 h.ne.2.1 h.ne.2.2 _ _ _ _ _ _ _ _ _ _ _ _ _, Mut13.put h.mu _ _ _ _ _ _ _ _ _ _ _ _ _, h.lo, h.ne⟩
theorem TkW.first {w W : World} {H A G : Nat} {C : Cf} {s : Dy} (hb : Below w.heap.size w W) (hH : HAt W H A G C s) (l1 : w.heap.size ≤ H) (l2 : w.heap.size ≤ G) (m : Mu) :
    TkW w (W.alloc (.cells #[.int .i64 m.l, .int .i64 m.q1, .int .i64 m.q2, .int .i64 m.q3, .int .i64 m.q4, .int .u64 m.m1, .int .u64 m.m2, .int .u64 m.m3, .int .u64 m.m4, .int .u64 m.m5, .int .u64 m.p, .int .i64 m.bk, .int .i64 m.rt] 30)) H A G W.heap.size C s m :=
  ⟨below_on hb _, hH.below (below_new _ _), Mut13.new _ _ _ _ _ _ _ _ _ _ _ _ _ _, ⟨l1, l2, hb.size⟩, ⟨by have := hH.lt; omega, by have := hH.ar.lt; omega, by have := hH.ar.row.lt; omega⟩⟩
end Go.Proofs.YtgjbabndpmkccaaDoor
