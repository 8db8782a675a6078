/- The law IdealPairs, for all three numbers: true. -/
import Derived.Test.YthlpmkjhiifibaaDoorIdealStores
import Derived.Laws.EntriesVeiled
namespace Go.Proofs.YthlpmkjhiifibaaDoor
open Go Go.RowKit
set_option maxRecDepth 100000
attribute [local go_sem ↓] Go.wp_at_zero Go.wp_at_succ

def ps1 (a _b _c : Nat) : St := doS 2 4 1 st0 0 1 0 (a : Int) 0 false
def ps2 (a b c : Nat) : St := doS 2 4 1 (ps1 a b c) 0 1 1 (b : Int) 0 false
def ps3 (a b c : Nat) : St := doS 2 4 1 (ps2 a b c) 0 3 2 0 1 false
def ps4 (a b c : Nat) : St := doS 2 4 1 (ps3 a b c) 0 9 0 2 0 false
def ps5 (a b c : Nat) : St := doS 2 4 1 (ps4 a b c) 1 8 0 0 0 false
def ps6 (a b c : Nat) : St := doS 2 4 1 (ps5 a b c) 1 1 1 (c : Int) 0 false
def ps7 (a b c : Nat) : St := doS 2 4 1 (ps6 a b c) 1 7 0 1 0 false
def ps8 (a b c : Nat) : St := doS 2 4 1 (ps7 a b c) 0 4 3 2 0 false
def ps9 (a b c : Nat) : St := doS 2 4 1 (ps8 a b c) 0 5 0 2 0 false
def ps10 (a b c : Nat) : St := doS 2 4 1 (ps9 a b c) 0 4 1 1 0 false
def ps11 (a b c : Nat) : St := doS 2 4 1 (ps10 a b c) 0 10 3 0 0 false
theorem good_set (m x : Int) (y : Nat) (hm : 0 ≤ m ∧ m < 2) (hx : 0 ≤ x ∧ x < 4) (hy : y < 256) : goodOp 2 4 1 m 1 x y 0 := by
  refine ⟨hm.1, hm.2, ?_⟩
  unfold checkF
  rw [if_pos (by decide), if_pos (by decide), if_pos]
  intro p hp
  have : p = (114, x) ∨ p = (107, (y : Int)) := by simpa [nums, numsH, hsL, numF, List.range, List.range.loop] using hp
  rcases this with rfl | rfl
  · exact ⟨hx.1, by show x ≤ lastF 4 1 114; unfold lastF; rw [if_pos rfl]; omega⟩
  · exact ⟨by show (0 : Int) ≤ y; omega, by show (y : Int) ≤ lastF 4 1 107; unfold lastF; rw [if_neg (by decide), if_neg (by decide)]; omega⟩
theorem ps1_eq {a b c : Nat} (ha : a < 256) (_ : b < 256) (_ : c < 256) : ps1 a b c = ⟨putG st0.g 0 0 0 (2 * a), 0⟩ := by
  have hg := good_set 0 0 a ⟨by decide, by decide⟩ ⟨by decide, by decide⟩ ha
  unfold ps1 doS
  rw [if_pos hg]
  simp [nxtK, st0]
theorem ps2_eq {a b c : Nat} (ha : a < 256) (hb : b < 256) (hc : c < 256) : ps2 a b c = ⟨putG (ps1 a b c).g 0 0 1 (2 * b), 0⟩ := by
  have hg := good_set 0 1 b ⟨by decide, by decide⟩ ⟨by decide, by decide⟩ hb
  have hn : (ps1 a b c).n = 0 := by simp [ps1_eq ha hb hc]
  unfold ps2 doS
  rw [if_pos hg]
  simp [nxtK, hn]
theorem ps3_eq {a b c : Nat} (ha : a < 256) (hb : b < 256) (hc : c < 256) : ps3 a b c = ⟨putG (putG (putG (ps2 a b c).g 2 0 0 (2 * a)) 3 0 0 (2 * b)) 0 0 2 1, 1⟩ := by
  have hg := (by decide : goodOp 2 4 1 0 3 2 0 1)
  have hn : (ps2 a b c).n = 0 := by simp [ps2_eq ha hb hc, ps1_eq ha hb hc]
  have v0 : (ps2 a b c).g 0 0 0 = 2 * a := by simp [ps2_eq ha hb hc, ps1_eq ha hb hc, putG, st0]
  have v1 : (ps2 a b c).g 0 0 1 = 2 * b := by simp [ps2_eq ha hb hc, ps1_eq ha hb hc, putG, st0]
  unfold ps3 doS
  rw [if_pos hg]
  simp [nxtK, hn, v0, v1]
theorem ps4_eq {a b c : Nat} (ha : a < 256) (hb : b < 256) (hc : c < 256) : ps4 a b c = ⟨putG (ps3 a b c).g 1 0 0 1, 1⟩ := by
  have hg := (by decide : goodOp 2 4 1 0 9 0 2 0)
  have hn : (ps3 a b c).n = 1 := by simp [ps3_eq ha hb hc, ps2_eq ha hb hc, ps1_eq ha hb hc]
  have v0 : (ps3 a b c).g 0 0 2 = 1 := by simp [ps3_eq ha hb hc, ps2_eq ha hb hc, ps1_eq ha hb hc, putG, st0]
  unfold ps4 doS
  rw [if_pos hg]
  simp [nxtK, hn, v0]
theorem ps5_eq {a b c : Nat} (ha : a < 256) (hb : b < 256) (hc : c < 256) : ps5 a b c = ⟨putG (ps4 a b c).g 0 1 0 1, 1⟩ := by
  have hg := (by decide : goodOp 2 4 1 1 8 0 0 0)
  have hn : (ps4 a b c).n = 1 := by simp [ps4_eq ha hb hc, ps3_eq ha hb hc, ps2_eq ha hb hc, ps1_eq ha hb hc]
  have v0 : (ps4 a b c).g 1 0 0 = 1 := by simp [ps4_eq ha hb hc, ps3_eq ha hb hc, ps2_eq ha hb hc, ps1_eq ha hb hc, putG, st0]
  unfold ps5 doS
  rw [if_pos hg]
  simp [nxtK, hn, v0]
theorem ps6_eq {a b c : Nat} (ha : a < 256) (hb : b < 256) (hc : c < 256) : ps6 a b c = ⟨putG (ps5 a b c).g 0 1 1 (2 * c), 1⟩ := by
  have hg := good_set 1 1 c ⟨by decide, by decide⟩ ⟨by decide, by decide⟩ hc
  have hn : (ps5 a b c).n = 1 := by simp [ps5_eq ha hb hc, ps4_eq ha hb hc, ps3_eq ha hb hc, ps2_eq ha hb hc, ps1_eq ha hb hc]
  unfold ps6 doS
  rw [if_pos hg]
  simp [nxtK, hn]
theorem ps7_eq {a b c : Nat} (ha : a < 256) (hb : b < 256) (hc : c < 256) : ps7 a b c = ⟨putG (ps6 a b c).g 3 0 0 (2 * c), 1⟩ := by
  have hg := (by decide : goodOp 2 4 1 1 7 0 1 0)
  have hn : (ps6 a b c).n = 1 := by simp [ps6_eq ha hb hc, ps5_eq ha hb hc, ps4_eq ha hb hc, ps3_eq ha hb hc, ps2_eq ha hb hc, ps1_eq ha hb hc]
  have v0 : (ps6 a b c).g 0 1 0 = 1 := by simp [ps6_eq ha hb hc, ps5_eq ha hb hc, ps4_eq ha hb hc, ps3_eq ha hb hc, ps2_eq ha hb hc, ps1_eq ha hb hc, putG, st0]
  have v1 : (ps6 a b c).g 0 1 1 = 2 * c := by simp [ps6_eq ha hb hc, ps5_eq ha hb hc, ps4_eq ha hb hc, ps3_eq ha hb hc, ps2_eq ha hb hc, ps1_eq ha hb hc, putG, st0]
  unfold ps7 doS
  rw [if_pos hg]
  simp [nxtK, hn, v0, v1]
theorem ps8_eq {a b c : Nat} (ha : a < 256) (hb : b < 256) (hc : c < 256) : ps8 a b c = ⟨putG (ps7 a b c).g 0 0 3 (2 * a), 1⟩ := by
  have hg := (by decide : goodOp 2 4 1 0 4 3 2 0)
  have hn : (ps7 a b c).n = 1 := by simp [ps7_eq ha hb hc, ps6_eq ha hb hc, ps5_eq ha hb hc, ps4_eq ha hb hc, ps3_eq ha hb hc, ps2_eq ha hb hc, ps1_eq ha hb hc]
  have v0 : (ps7 a b c).g 0 0 2 = 1 := by simp [ps7_eq ha hb hc, ps6_eq ha hb hc, ps5_eq ha hb hc, ps4_eq ha hb hc, ps3_eq ha hb hc, ps2_eq ha hb hc, ps1_eq ha hb hc, putG, st0]
  have v1 : (ps7 a b c).g 2 0 0 = 2 * a := by simp [ps7_eq ha hb hc, ps6_eq ha hb hc, ps5_eq ha hb hc, ps4_eq ha hb hc, ps3_eq ha hb hc, ps2_eq ha hb hc, ps1_eq ha hb hc, putG, st0]
  unfold ps8 doS
  rw [if_pos hg]
  simp [nxtK, hn, v0, v1]
theorem ps9_eq {a b c : Nat} (ha : a < 256) (hb : b < 256) (hc : c < 256) : ps9 a b c = ⟨putG (ps8 a b c).g 0 0 0 (2 * c), 1⟩ := by
  have hg := (by decide : goodOp 2 4 1 0 5 0 2 0)
  have hn : (ps8 a b c).n = 1 := by simp [ps8_eq ha hb hc, ps7_eq ha hb hc, ps6_eq ha hb hc, ps5_eq ha hb hc, ps4_eq ha hb hc, ps3_eq ha hb hc, ps2_eq ha hb hc, ps1_eq ha hb hc]
  have v0 : (ps8 a b c).g 0 0 2 = 1 := by simp [ps8_eq ha hb hc, ps7_eq ha hb hc, ps6_eq ha hb hc, ps5_eq ha hb hc, ps4_eq ha hb hc, ps3_eq ha hb hc, ps2_eq ha hb hc, ps1_eq ha hb hc, putG, st0]
  have v1 : (ps8 a b c).g 3 0 0 = 2 * c := by simp [ps8_eq ha hb hc, ps7_eq ha hb hc, ps6_eq ha hb hc, ps5_eq ha hb hc, ps4_eq ha hb hc, ps3_eq ha hb hc, ps2_eq ha hb hc, ps1_eq ha hb hc, putG, st0]
  unfold ps9 doS
  rw [if_pos hg]
  simp [nxtK, hn, v0, v1]
theorem ps10_eq {a b c : Nat} (ha : a < 256) (hb : b < 256) (hc : c < 256) : ps10 a b c = ps9 a b c := by
  have hg := (by decide : goodOp 2 4 1 0 4 1 1 0)
  have v0 : (ps9 a b c).g 0 0 1 = 2 * b := by simp [ps9_eq ha hb hc, ps8_eq ha hb hc, ps7_eq ha hb hc, ps6_eq ha hb hc, ps5_eq ha hb hc, ps4_eq ha hb hc, ps3_eq ha hb hc, ps2_eq ha hb hc, ps1_eq ha hb hc, putG, st0]
  unfold ps10 doS
  rw [if_pos hg]
  simp [nxtK, v0]
theorem ps11_eq {a b c : Nat} (_ : a < 256) (_ : b < 256) (_ : c < 256) : ps11 a b c = ps10 a b c := by
  have hg := (by decide : goodOp 2 4 1 0 10 3 0 0)
  unfold ps11 doS
  rw [if_pos hg]
  simp [nxtK]
theorem pv3 {a b c : Nat} (ha : a < 256) (hb : b < 256) (hc : c < 256) : (ps11 a b c).g 0 0 3 = 2 * a := by simp [ps11_eq ha hb hc, ps10_eq ha hb hc, ps9_eq ha hb hc, ps8_eq ha hb hc, ps7_eq ha hb hc, ps6_eq ha hb hc, ps5_eq ha hb hc, ps4_eq ha hb hc, ps3_eq ha hb hc, ps2_eq ha hb hc, ps1_eq ha hb hc, putG, st0]
theorem pv0 {a b c : Nat} (ha : a < 256) (hb : b < 256) (hc : c < 256) : (ps11 a b c).g 0 0 0 = 2 * c := by simp [ps11_eq ha hb hc, ps10_eq ha hb hc, ps9_eq ha hb hc, ps8_eq ha hb hc, ps7_eq ha hb hc, ps6_eq ha hb hc, ps5_eq ha hb hc, ps4_eq ha hb hc, ps3_eq ha hb hc, ps2_eq ha hb hc, ps1_eq ha hb hc, putG, st0]
theorem pv1 {a b c : Nat} (ha : a < 256) (hb : b < 256) (hc : c < 256) : (ps11 a b c).g 0 0 1 = 2 * b := by simp [ps11_eq ha hb hc, ps10_eq ha hb hc, ps9_eq ha hb hc, ps8_eq ha hb hc, ps7_eq ha hb hc, ps6_eq ha hb hc, ps5_eq ha hb hc, ps4_eq ha hb hc, ps3_eq ha hb hc, ps2_eq ha hb hc, ps1_eq ha hb hc, putG, st0]
theorem pw0 {a b c : Nat} (ha : a < 256) (hb : b < 256) (hc : c < 256) : (ps11 a b c).g 0 1 0 = 1 := by simp [ps11_eq ha hb hc, ps10_eq ha hb hc, ps9_eq ha hb hc, ps8_eq ha hb hc, ps7_eq ha hb hc, ps6_eq ha hb hc, ps5_eq ha hb hc, ps4_eq ha hb hc, ps3_eq ha hb hc, ps2_eq ha hb hc, ps1_eq ha hb hc, putG, st0]
theorem pw1 {a b c : Nat} (ha : a < 256) (hb : b < 256) (hc : c < 256) : (ps11 a b c).g 0 1 1 = 2 * c := by simp [ps11_eq ha hb hc, ps10_eq ha hb hc, ps9_eq ha hb hc, ps8_eq ha hb hc, ps7_eq ha hb hc, ps6_eq ha hb hc, ps5_eq ha hb hc, ps4_eq ha hb hc, ps3_eq ha hb hc, ps2_eq ha hb hc, ps1_eq ha hb hc, putG, st0]
theorem pr8 {a b c : Nat} (ha : a < 256) (hb : b < 256) (hc : c < 256) : doR 2 4 1 (ps7 a b c) 0 4 3 2 0 false = 1 := by
  have hg := (by decide : goodOp 2 4 1 0 4 3 2 0)
  have v0 : (ps7 a b c).g 0 0 2 = 1 := by simp [ps7_eq ha hb hc, ps6_eq ha hb hc, ps5_eq ha hb hc, ps4_eq ha hb hc, ps3_eq ha hb hc, ps2_eq ha hb hc, ps1_eq ha hb hc, putG, st0]
  unfold doR
  rw [if_pos hg]
  simp [resK, v0]
theorem pr9 {a b c : Nat} (ha : a < 256) (hb : b < 256) (hc : c < 256) : doR 2 4 1 (ps8 a b c) 0 5 0 2 0 false = 1 := by
  have hg := (by decide : goodOp 2 4 1 0 5 0 2 0)
  have v0 : (ps8 a b c).g 0 0 2 = 1 := by simp [ps8_eq ha hb hc, ps7_eq ha hb hc, ps6_eq ha hb hc, ps5_eq ha hb hc, ps4_eq ha hb hc, ps3_eq ha hb hc, ps2_eq ha hb hc, ps1_eq ha hb hc, putG, st0]
  unfold doR
  rw [if_pos hg]
  simp [resK, v0]
theorem pr10 {a b c : Nat} (ha : a < 256) (hb : b < 256) (hc : c < 256) : doR 2 4 1 (ps9 a b c) 0 4 1 1 0 false = 4 := by
  have hg := (by decide : goodOp 2 4 1 0 4 1 1 0)
  have v0 : (ps9 a b c).g 0 0 1 = 2 * b := by simp [ps9_eq ha hb hc, ps8_eq ha hb hc, ps7_eq ha hb hc, ps6_eq ha hb hc, ps5_eq ha hb hc, ps4_eq ha hb hc, ps3_eq ha hb hc, ps2_eq ha hb hc, ps1_eq ha hb hc, putG, st0]
  unfold doR
  rw [if_pos hg]
  simp [resK, v0]
theorem pr11 {a b c : Nat} (ha : a < 256) (hb : b < 256) (hc : c < 256) : doR 2 4 1 (ps10 a b c) 0 10 3 0 0 false = if a = c then 2 else 3 := by
  have hg := (by decide : goodOp 2 4 1 0 10 3 0 0)
  have v0 : (ps10 a b c).g 0 0 3 = 2 * a := by simp [ps10_eq ha hb hc, ps9_eq ha hb hc, ps8_eq ha hb hc, ps7_eq ha hb hc, ps6_eq ha hb hc, ps5_eq ha hb hc, ps4_eq ha hb hc, ps3_eq ha hb hc, ps2_eq ha hb hc, ps1_eq ha hb hc, putG, st0]
  have v1 : (ps10 a b c).g 0 0 0 = 2 * c := by simp [ps10_eq ha hb hc, ps9_eq ha hb hc, ps8_eq ha hb hc, ps7_eq ha hb hc, ps6_eq ha hb hc, ps5_eq ha hb hc, ps4_eq ha hb hc, ps3_eq ha hb hc, ps2_eq ha hb hc, ps1_eq ha hb hc, putG, st0]
  have q : (2 * a = 2 * c) ↔ a = c := by omega
  unfold doR
  rw [if_pos hg]
  simp [resK, v0, v1, q]
theorem pr12 {a b c : Nat} (ha : a < 256) (hb : b < 256) (hc : c < 256) : doR 2 4 1 (ps11 a b c) 1 11 0 0 0 false = 3 := by
  have hg := (by decide : goodOp 2 4 1 1 11 0 0 0)
  have v0 : (ps11 a b c).g 0 1 0 = 1 := by simp [ps11_eq ha hb hc, ps10_eq ha hb hc, ps9_eq ha hb hc, ps8_eq ha hb hc, ps7_eq ha hb hc, ps6_eq ha hb hc, ps5_eq ha hb hc, ps4_eq ha hb hc, ps3_eq ha hb hc, ps2_eq ha hb hc, ps1_eq ha hb hc, putG, st0]
  unfold doR
  rw [if_pos hg]
  simp [resK, v0]
theorem pr13 {a b c : Nat} (ha : a < 256) (hb : b < 256) (hc : c < 256) : doR 2 4 1 (ps11 a b c) 1 11 1 0 0 false = 2 := by
  have hg := (by decide : goodOp 2 4 1 1 11 1 0 0)
  have v0 : (ps11 a b c).g 0 1 1 = 2 * c := by simp [ps11_eq ha hb hc, ps10_eq ha hb hc, ps9_eq ha hb hc, ps8_eq ha hb hc, ps7_eq ha hb hc, ps6_eq ha hb hc, ps5_eq ha hb hc, ps4_eq ha hb hc, ps3_eq ha hb hc, ps2_eq ha hb hc, ps1_eq ha hb hc, putG, st0]
  unfold doR
  rw [if_pos hg]
  simp [resK, v0]
theorem ps_small {a b c : Nat} (ha : a < 256) (hb : b < 256) (hc : c < 256) : (ps1 a b c).n = 0 ∧ (ps2 a b c).n = 0 ∧ (ps3 a b c).n = 1 ∧ (ps4 a b c).n = 1 ∧ (ps5 a b c).n = 1 ∧ (ps6 a b c).n = 1 ∧ (ps7 a b c).n = 1 ∧ (ps8 a b c).n = 1 ∧ (ps9 a b c).n = 1 ∧ (ps10 a b c).n = 1 ∧ (ps11 a b c).n = 1 := by
  refine ⟨?_, ?_, ?_, ?_, ?_, ?_, ?_, ?_, ?_, ?_, ?_⟩ <;> simp [ps11_eq ha hb hc, ps10_eq ha hb hc, ps9_eq ha hb hc, ps8_eq ha hb hc, ps7_eq ha hb hc, ps6_eq ha hb hc, ps5_eq ha hb hc, ps4_eq ha hb hc, ps3_eq ha hb hc, ps2_eq ha hb hc, ps1_eq ha hb hc]
/-- The store, and the variable that points to it. -/
structure VarAt (w W : World) (B X R L : Nat) (v : Value) (s : St) : Prop where
  st : Stores w W 2 4 1 [⟨X, R, L, v, s⟩]
  box : W.cell? ⟨B, 0, none⟩ = some (.pointer (some ⟨X, 0, none⟩))
  up : w.heap.size ≤ B
  ap : ¬ foot X R L v B
theorem VarAt.on {w W W' : World} {B X R L : Nat} {v : Value} {s : St} (h : VarAt w W B X R L v s) (hb : Below W.heap.size W W') : VarAt w W' B X R L v s := ⟨h.st.on hb, (hb.cell (p := ⟨B, 0, none⟩) (lt_of_cell h.box)).trans h.box, h.up, h.ap⟩
theorem VarAt.act {w W W' : World} {B X R L : Nat} {v : Value} {s s' : St} {r : Int} {e : Ending} (h : VarAt w W B X R L v s) (hp : DoPost W X R L v 2 4 1 s' r e W') : e = .returned (.int .i64 r) ∧ ∃ v', VarAt w W' B X R L v' s' := by
  obtain ⟨v', he, hs', ho, hs⟩ := hp
  have hl := lt_of_cell h.box
  have hsz := h.st.old.size
  have hup : ∀ k, foot X R L v k → w.heap.size ≤ k := h.st.up ⟨X, R, L, v, s⟩ (by simp)
  refine ⟨he, v', ⟨h.st.old.trans (hs.below h.st.old.size (fun k hk hf => by have := hup k hf; omega)), fun p hp => ?_, fun p hp k hk => ?_, List.pairwise_singleton _ _⟩, (World.cell?_of_block (w := W) (a := ⟨B, 0, none⟩) (hs.block B hl h.ap)).trans h.box, h.up, ?_⟩
  · obtain rfl : p = _ := by simpa using hp
    exact hs'
  · obtain rfl : p = _ := by simpa using hp
    rcases hk with e | e | e | e
    · exact hup k (.inl e)
    · exact hup k (.inr (.inl e))
    · exact hup k (.inr (.inr (.inl e)))
    · rcases ho k e with e | e
      · exact hup k (.inr (.inr (.inr e)))
      · omega
  · rintro (e | e | e | e)
    · exact h.ap (.inl e)
    · exact h.ap (.inr (.inl e))
    · exact h.ap (.inr (.inr (.inl e)))
    · rcases ho B e with e | e
      · exact h.ap (.inr (.inr (.inr e)))
      · omega
/-- What the law's own do answers. -/
def VarPost (w : World) (B X R L : Nat) (s : St) (r : Int) (e : Ending) (W' : World) : Prop := e = .returned (.int .i64 r) ∧ ∃ v', VarAt w W' B X R L v' s
theorem do_c {w W : World} {B X R L : Nat} {v : Value} {s : St} (h : VarAt w W B X R L v s) (hS : SpansAt w) (hRw : RowsAt w) (hn : s.n + 1 ≤ 1000000) (m k x y z : Int) :
    Calls Tryd.prog 21 #[.int .i64 m, .int .i64 k, .int .i64 x, .int .i64 y, .int .i64 z, .pointer (some ⟨B, 0, none⟩)] W (VarPost w B X R L (doS 2 4 1 s m k x y z false) (doR 2 4 1 s m k x y z false)) := by
  have HD := Lib.hid (Do_c h.st.h1 (hS.below h.st.old) (hRw.below h.st.old) m k x y z false hn)
  dsimp only at HD
  have hbx := h.box
  have HV := Lib.hid h
  clear h hS hRw hn
  generalize doS 2 4 1 s m k x y z false = s' at *
  generalize doR 2 4 1 s m k x y z false = r at *
  go_enter Tryd.func21, Tryd.ntmps21
  go_wp2_with fail
  refine HD.out.mono ?_
  rintro e W2 hP
  obtain ⟨rfl, v', hV2⟩ := HV.out.act hP
  have HV2 := Lib.hid hV2
  clear hP hV2 HV HD
  go_wp2_with fail
  go_ret
  exact ⟨rfl, v', HV2.out⟩
end Go.Proofs.YthlpmkjhiifibaaDoor
