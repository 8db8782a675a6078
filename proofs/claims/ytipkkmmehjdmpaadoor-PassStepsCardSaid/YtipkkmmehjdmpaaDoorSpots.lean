/- Places and what lies there; what an access does to words; a configuration that fits the number of words. -/
import Derived.Test.YtipkkmmehjdmpaaDoorMem
import Derived.Test.YtipkkmmehjdmpaaDoorPlaceAll
import Derived.Test.YtipkkmmehjdmpaaDoorPlaceIn
namespace Go.Proofs.YtipkkmmehjdmpaaDoor
open Go Go.RowKit
set_option maxRecDepth 100000

theorem words_load (n : Nat) (f : Nat → Int) (i : Int) : wordsQ n f 1 i 0 0 = f := by
  unfold wordsQ
  by_cases h : okD n 1 i
  · rw [if_pos h]; rfl
  · rw [if_neg h]
theorem words_store (n : Nat) (f : Nat → Int) (i x : Int) (h : 0 ≤ i ∧ i < n) : wordsQ n f 2 i x 0 = upd f i.toNat x := by
  unfold wordsQ
  rw [if_pos (show okD n 2 i from ⟨by omega, by omega, h.1, h.2⟩)]; rfl
theorem z5_in {n : Nat} {k i : Int} (v : Int) (hk : 1 ≤ k ∧ k ≤ 4) (h : 0 ≤ i ∧ i < n) : z5 n k i v = v := by
  unfold z5
  rw [if_pos (show okD n k i from ⟨hk.1, hk.2, h.1, h.2⟩)]
theorem field_cell {a b c d : Int} {i : Nat} (hi : i < 4096) (p : Int) (hp : 0 ≤ p ∧ p ≤ 2) : fieldP a b c d (2 * i + 1) p = partP a b c d p (i : Int) := by
  unfold fieldP
  rw [if_pos ⟨⟨by omega, by omega⟩, hp⟩, show (2 * i + 1) / 2 = i by omega]
theorem cell_isC {i : Nat} (h : i < 4096) : isC (2 * i + 1) := ⟨by omega, by omega⟩
/-- Where the configuration's numbers fit the number of words. -/
structure CfOK (C : Cf) : Prop where
  right : Right C.a C.b C.c C.d
  size : (C.n : Int) = 5 + C.b + C.d + C.b * C.c + 3 * C.a
theorem CfOK.pos {C : Cf} (h : CfOK C) : 0 < C.n := by have := h.right.prod; have h1 := h.right; have h2 := h.size; unfold Right at h1; omega
theorem CfOK.a4 {C : Cf} (h : CfOK C) : 2 ≤ C.a ∧ C.a ≤ 4096 ∧ 1 ≤ C.b ∧ 1 ≤ C.c ∧ 0 ≤ C.d := by have := h.right; unfold Right at this; omega
theorem CfOK.four {C : Cf} (h : CfOK C) : 4 < C.n := by have := h.right.prod; have h1 := h.right; have h2 := h.size; unfold Right at h1; omega
theorem sp_reg {C : Cf} (h : CfOK C) {i r : Int} (h0 : 0 ≤ i) (h1 : i < C.b) (h2 : 0 ≤ r) (h3 : r < C.c) : spotF C.b C.c C.d ((regP C.a C.b C.c C.d i r).toNat : Int) = (3, i, r) ∧ 0 ≤ regP C.a C.b C.c C.d i r ∧ regP C.a C.b C.c C.d i r < C.n := by
  have hr := h.right
  have hp := prod_lt hr h0 h1 h2 h3
  have hs := h.size
  rw [regP_in hr i r h0 h1 h2 h3]
  have hq := hr
  unfold Right at hq
  exact ⟨spot_reg hr h0 h1 h2 h3 (by omega), by omega, by omega⟩
theorem sp_glob {C : Cf} (h : CfOK C) {i : Int} (h0 : 0 ≤ i) (h1 : i < C.d) : spotF C.b C.c C.d ((globP C.a C.b C.c C.d i).toNat : Int) = (2, i, 0) ∧ 0 ≤ globP C.a C.b C.c C.d i ∧ globP C.a C.b C.c C.d i < C.n := by
  have hr := h.right
  have hp := hr.prod
  have hs := h.size
  rw [globP_in hr i h0 h1]
  unfold Right at hr
  refine ⟨?_, by omega, by omega⟩
  rw [spot_glob (by omega) (by omega) (by omega), show ((5 + C.b + i).toNat : Int) - (5 + C.b) = i by omega]
theorem sp_part {C : Cf} (h : CfOK C) {k i : Int} (h0 : 0 ≤ i) (h1 : i < C.a) (h2 : 0 ≤ k) (h3 : k < 3) : spotF C.b C.c C.d ((partP C.a C.b C.c C.d k i).toNat : Int) = (4 + k, i, 0) ∧ 0 ≤ partP C.a C.b C.c C.d k i ∧ partP C.a C.b C.c C.d k i < C.n := by
  have hr := h.right
  have hp := hr.prod
  have hs := h.size
  rw [partP_in hr k i h0 h1]
  have hq := hr
  unfold Right at hq
  exact ⟨spot_cell hr h0 h2 h3 (by omega), by omega, by omega⟩
theorem sp_once (b c d : Int) {j : Nat} (h : j < 5) : spotF b c d (j : Int) = (0, (j : Int), 0) := spot_once (by omega)
theorem upd_spot {b c d : Int} {f : Nat → Int} {p j : Nat} {w : Int} (h : spotF b c d j ≠ spotF b c d p) : upd f p w j = f j := by
  unfold upd
  rw [if_neg (fun e => h (by rw [e]))]
theorem upd_at (f : Nat → Int) (p : Nat) (w : Int) : upd f p w p = w := by unfold upd; rw [if_pos rfl]
/-- The words, and no access. -/
def Dy.clr (s : Dy) : Dy := ⟨s.f, 0, 0, 0, 0, 0⟩
/-- What is loaded at a place. -/
def ldP (C : Cf) (s : Dy) (P : Int) : Int := z5 C.n 1 P (s.f P.toNat)
end Go.Proofs.YtipkkmmehjdmpaaDoor
