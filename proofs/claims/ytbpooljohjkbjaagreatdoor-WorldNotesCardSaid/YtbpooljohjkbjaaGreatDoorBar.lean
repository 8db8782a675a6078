/- Package barrier's goOn and Begin, and the document's Begin, of every word. -/
import Derived.Test.YtbpooljohjkbjaaGreatDoorM4
namespace Go.Proofs.YtbpooljohjkbjaaGreatDoor
open Go Go.RowKit
set_option maxRecDepth 100000
attribute [local go_sem ↓] Go.wp_at_zero Go.wp_at_succ
theorem goOn_c (l p bk q1 q2 q3 q4 m1 m2 m3 m4 m5 rt n : Int) (w : World) :
    Calls Tryz.prog 179 #[(mutV l p bk q1 q2 q3 q4 m1 m2 m3 m4 m5 rt), .int .i64 n] w fun e w' => e = .returned (mutV n 0 0 q1 q2 q3 q4 m1 m2 m3 m4 m5 rt) ∧ Below w.heap.size w w' := by
  go_enter Tryz.func179, Tryz.ntmps179
  go_wp2_with fail
  refine bodyPost_ret (v := (mutV n 0 0 q1 q2 q3 q4 m1 m2 m3 m4 m5 rt)) (by simp [results, Tryz.f179, go_sem]) rfl ?_
  exact ⟨rfl, below_on (below_new _ _) _⟩
def begL (v : Nat) (k : Int) : Int := if isC v then 80 else k
def begP (v : Nat) : Int := if isC v then (v : Int) else 0
def begB (v : Nat) (k : Int) : Int := if isC v then k else 0
theorem Begin_c (l p bk q1 q2 q3 q4 m1 m2 m3 m4 m5 rt : Int) (v : Nat) (hv : v < 18446744073709551616) (n : Int) (w : World) :
    Calls Tryz.prog 145 #[(mutV l p bk q1 q2 q3 q4 m1 m2 m3 m4 m5 rt), .int .u64 v, .int .i64 n] w fun e w' => e = .returned (mutV (begL v n) (begP v) (begB v n) q1 q2 q3 q4 m1 m2 m3 m4 m5 rt) ∧ Below w.heap.size w w' := by
  have hb := below_on (below_new w (.cells #[.int .i64 l, .int .i64 q1, .int .i64 q2, .int .i64 q3, .int .i64 q4, .int .u64 m1, .int .u64 m2, .int .u64 m3, .int .u64 m4, .int .u64 m5, .int .u64 p, .int .i64 bk, .int .i64 rt] 60)) (.cells #[.int .i64 0, .int .i64 0, .int .i64 0, .int .i64 0, .int .i64 0, .int .u64 0, .int .u64 0, .int .u64 0, .int .u64 0, .int .u64 0, .int .u64 0, .int .i64 0, .int .i64 0] 60)
  have HX := Lib.hid ((Mut13.new w l p bk q1 q2 q3 q4 m1 m2 m3 m4 m5 rt).below (below_new _ (.cells #[.int .i64 0, .int .i64 0, .int .i64 0, .int .i64 0, .int .i64 0, .int .u64 0, .int .u64 0, .int .u64 0, .int .u64 0, .int .u64 0, .int .u64 0, .int .i64 0, .int .i64 0] 60)))
  have HY : Hid (Mut13 ((w.alloc (.cells #[.int .i64 l, .int .i64 q1, .int .i64 q2, .int .i64 q3, .int .i64 q4, .int .u64 m1, .int .u64 m2, .int .u64 m3, .int .u64 m4, .int .u64 m5, .int .u64 p, .int .i64 bk, .int .i64 rt] 60)).alloc (.cells #[.int .i64 0, .int .i64 0, .int .i64 0, .int .i64 0, .int .i64 0, .int .u64 0, .int .u64 0, .int .u64 0, .int .u64 0, .int .u64 0, .int .u64 0, .int .i64 0, .int .i64 0] 60)) (w.heap.size + 1) 0 0 0 0 0 0 0 0 0 0 0 0 0) := Lib.hid (by have := Mut13.new (w.alloc (.cells #[.int .i64 l, .int .i64 q1, .int .i64 q2, .int .i64 q3, .int .i64 q4, .int .u64 m1, .int .u64 m2, .int .u64 m3, .int .u64 m4, .int .u64 m5, .int .u64 p, .int .i64 bk, .int .i64 rt] 60)) 0 0 0 0 0 0 0 0 0 0 0 0 0; simpa using this)
  have HB := Lib.hid hb; clear hb
  unfold begL begP begB
  by_cases h : isC v
  · rw [if_pos h, if_pos h, if_pos h]
    have HI := Lib.hid (isCell_cell v h.2 h.1)
    clear h
    go_enter Tryz.func145, Tryz.ntmps145
    go_wp2_with fail
    refine (HI.out _).mono ?_
    rintro e W ⟨rfl, rfl⟩
    go_wp2_with fail
    refine bodyPost_ret (v := (mutV 80 (v : Int) n q1 q2 q3 q4 m1 m2 m3 m4 m5 rt)) (by simp [results, Tryz.f145, go_sem]) rfl ?_
    exact ⟨rfl, below_on (below_new _ _) _⟩
  · rw [if_neg h, if_neg h, if_neg h]
    have HI := Lib.hid (isCell_no v hv h)
    have HG := Lib.hid (goOn_c l p bk q1 q2 q3 q4 m1 m2 m3 m4 m5 rt n)
    clear h
    obtain ⟨b0, b1, b2, b3, b4, b5, b6, b7, b8, b9, b10, b11, b12, bf⟩ := HX.out.cells
    go_enter Tryz.func145, Tryz.ntmps145
    go_wp2_with fail
    refine (HI.out _).mono ?_
    rintro e W ⟨rfl, rfl⟩
    go_wp2_with fail
    refine (HG.out _).mono ?_
    rintro e W ⟨rfl, hW⟩
    have HB2 := Lib.hid (belowOn HB.out hW)
    have HY2 := Lib.hid (HY.out.below hW)
    clear hW HB HY HX b0 b1 b2 b3 b4 b5 b6 b7 b8 b9 b10 b11 b12 bf
    obtain ⟨c0, c1, c2, c3, c4, c5, c6, c7, c8, c9, c10, c11, c12, cf⟩ := HY2.out.cells
    obtain ⟨s0, s1, s2, s3, s4, s5, s6, s7, s8, s9, s10, s11, s12, _⟩ := (HY2.out.put n 0 0 q1 q2 q3 q4 m1 m2 m3 m4 m5 rt).cells
    go_wp2_with fail
    refine bodyPost_ret (v := (mutV n 0 0 q1 q2 q3 q4 m1 m2 m3 m4 m5 rt)) (by simp [results, Tryz.f145, go_sem, s0, s1, s2, s3, s4, s5, s6, s7, s8, s9, s10, s11, s12]) rfl ?_
    exact ⟨rfl, ((Sav.of (S := fun _ => False) HB2.out).put13 (.inr (by omega)) _ _ _ _ _ _ _ _ _ _ _ _ _).below (Nat.le_refl _) (fun _ _ e => e)⟩
end Go.Proofs.YtbpooljohjkbjaaGreatDoor
