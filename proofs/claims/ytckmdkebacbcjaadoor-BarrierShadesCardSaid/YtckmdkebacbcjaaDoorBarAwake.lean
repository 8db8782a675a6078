/- The laws of layer 10: their first look (awake). -/
import Derived.Test.YtckmdkebacbcjaaDoorBarRef
namespace Go.Proofs.YtckmdkebacbcjaaDoor
open Go Go.RowKit
set_option maxRecDepth 100000
attribute [local go_sem ↓] Go.wp_at_zero Go.wp_at_succ

theorem fst_u64 {a b c d : Int} (hr : Right a b c d) (j : Nat) : U64 (fstV a b c d j) := by
  unfold fstV
  by_cases h : (spotF b c d j).1 = 5 ∧ (spotF b c d j).2.1 + 1 < a
  · rw [if_pos h]
    have h0 := spot_five_pos hr j h.1
    have h1 := h.2
    unfold Right at hr
    unfold U64
    omega
  · rw [if_neg h]
    by_cases h2 : (spotF b c d j).1 = 0 ∧ (spotF b c d j).2.1 = 0
    · rw [if_pos h2]; unfold U64; omega
    · rw [if_neg h2]; unfold U64; omega
theorem right0 : Right 2 1 1 0 := by unfold Right; omega
/-- A hand's blocks lie behind what was there. -/
theorem Sav.old {H G : Nat} {w W V : World} (h : Sav (HG H G) W V) (hb : Below w.heap.size w W) (h1 : w.heap.size ≤ H) (h2 : w.heap.size ≤ G) : Below w.heap.size w V :=
  hb.trans (h.below hb.size (fun k hk e => by rcases e with e | e <;> omega))
theorem aw_field : fieldP 2 1 1 0 1 2 = 9 := by decide
theorem aw_f9 : fstV 2 1 1 0 9 = 0 := by decide
theorem aw_bar (k i x y o : Int) : ∃ s' s2 : Dy, barS ⟨13, 2, 1, 1, 0⟩ ⟨fstV 2 1 1 0, k, i, x, y, o⟩ ⟨80, 0, 0, 0, 0, 0, 0, 0, 0, 0, 1, 90, 0⟩ = (s', ⟨81, 0, 0, 0, 0, 0, 0, 0, 0, 0, 0, 90, 0⟩, true) ∧ barS ⟨13, 2, 1, 1, 0⟩ s' ⟨81, 0, 0, 0, 0, 0, 0, 0, 0, 0, 0, 90, 0⟩ = (s2, ⟨90, 0, 0, 0, 0, 0, 0, 0, 0, 0, 0, 0, 0⟩, true) ∧ s'.U ∧ s2.f 2 = 1 := by
  have hU : (⟨fstV 2 1 1 0, k, i, x, y, o⟩ : Dy).U := fun j => fst_u64 right0 j
  have h1 : fieldP 2 1 1 0 (Int.toNat 1) 2 = 9 := aw_field
  have hc : casB 13 (fstV 2 1 1 0) 9 0 = true := by
    unfold casB; rw [show (9 : Int).toNat = 9 from rfl, aw_f9]; rfl
  refine ⟨(⟨fstV 2 1 1 0, k, i, x, y, o⟩ : Dy).act ⟨13, 2, 1, 1, 0⟩ 3 9 0 1, ((⟨fstV 2 1 1 0, k, i, x, y, o⟩ : Dy).act ⟨13, 2, 1, 1, 0⟩ 3 9 0 1).act ⟨13, 2, 1, 1, 0⟩ 2 2 1 0, ?_, rfl, hU.act _ 3 _ u64_zero (by unfold U64; omega), ?_⟩
  · unfold barS; simp only [h1, hc, if_true]
  · show wordsQ 13 ((⟨fstV 2 1 1 0, k, i, x, y, o⟩ : Dy).act ⟨13, 2, 1, 1, 0⟩ 3 9 0 1).f 2 2 1 0 2 = 1
    unfold wordsQ doF upd okD; simp
def awM : Mu := ⟨80, 0, 0, 0, 0, 0, 0, 0, 0, 0, 1, 90, 0⟩
set_option maxHeartbeats 1600000 in
theorem awake_c (w : World) (hS : SpansAt w) :
    Calls Tryd.prog 7 #[] w fun e w' => e = .returned (.bool true) ∧ Below w.heap.size w w' := by
  have HN := Lib.hid (New_yes 2 1 1 0 right0 w hS)
  have HS := Lib.hid hS
  clear hS
  go_enter Tryd.func7, Tryd.ntmps7
  go_wp2_with fail
  refine HN.out.mono ?_
  rintro e W ⟨n, hn, H, A, G, rfl, hF, hb, l1, l2, l3⟩
  obtain rfl : n = 13 := by omega
  obtain ⟨s1, s2, e1, e2, u1, v2⟩ := aw_bar 0 0 0 0 0
  have h1 := bar_c (C := ⟨13, 2, 1, 1, 0⟩) (s := ⟨fstV 2 1 1 0, 0, 0, 0, 0, 0⟩) hF (fun j => fst_u64 right0 j) (HS.out.below hb) ⟨80, 0, 0, 0, 0, 0, 0, 0, 0, 0, 1, 90, 0⟩ (by show U64 1; unfold U64; omega)
  rw [e1] at h1
  have H1 := Lib.hid h1
  have H2 : Hid (∀ W, HAt W H A G ⟨13, 2, 1, 1, 0⟩ s1 → SpansAt W → _) := Lib.hid (fun W h hs => bar_c (w := W) h u1 hs ⟨81, 0, 0, 0, 0, 0, 0, 0, 0, 0, 0, 90, 0⟩ (by show U64 0; exact u64_zero))
  rw [e2] at H2
  have HB := Lib.hid hb
  have HV2 := Lib.hid v2
  clear h1 hF hb hn HN e1 e2 u1 v2
  go_wp2_with fail
  refine H1.out.mono ?_
  rintro e V ⟨rfl, hF, hs⟩
  have HB2 := Lib.hid (hs.old HB.out l1 l3)
  have HF := Lib.hid hF
  clear hF hs HB H1
  go_wp2_with fail
  have hlt : H < V.heap.size := HF.out.lt
  have hlG : G < V.heap.size := HF.out.ar.row.lt
  refine (H2.out _ (HF.out.below (below_new _ _)) (HS.out.below (below_on HB2.out _))).mono ?_
  rintro e V2 ⟨rfl, hF, hs⟩
  have HB3 := Lib.hid (hs.old (below_on HB2.out _) l1 l3)
  have HM := Lib.hid ((Mut13.new V 81 0 90 0 0 0 0 0 0 0 0 0 0).savH hs (by omega) (by omega))
  have hL := Load_in (hF.below (below_new V2 (.cells #[.int .i64 90, .int .i64 0, .int .i64 0, .int .i64 0, .int .i64 0, .int .u64 0, .int .u64 0, .int .u64 0, .int .u64 0, .int .u64 0, .int .u64 0, .int .i64 0, .int .i64 0] 30))).ar 2 (by show 2 < 13; omega)
  rw [show (((2 : Nat) : Int)) = 2 from rfl, HV2.out] at hL
  have HL := Lib.hid hL
  obtain ⟨h0, _⟩ := hF.cells
  obtain ⟨b0, _⟩ := HM.out.cells
  have hlV : V.heap.size < V2.heap.size := HM.out.lt
  have hlH : H < V2.heap.size := hF.lt
  clear hF hs HB2 H2 HF HM hL
  go_wp2_with fail
  refine HL.out.mono ?_
  rintro e V3 ⟨rfl, rfl⟩
  go_wp2_with fail
  go_ret
  exact ⟨rfl, below_on HB3.out _⟩
end Go.Proofs.YtckmdkebacbcjaaDoor
