/- Far of the document: are a collector's numbers within a million? -/
import Derived.Test.YtganbjgkobmdkaaDoorColF
namespace Go.Proofs.YtganbjgkobmdkaaDoor
open Go Go.RowKit
set_option maxRecDepth 100000
attribute [local go_sem ↓] Go.wp_at_zero Go.wp_at_succ

/-- The numbers that Far looks at. -/
def farN (x : Co) : Nat → Int
  | 0 => x.j
  | 1 => x.c
  | 2 => x.m
  | 3 => x.tl
  | _ => x.cy
/-- Is it within a million? -/
def nearN (i : Int) : Prop := -1000000 ≤ i ∧ i ≤ 1000000
def Co.near (x : Co) : Prop := ∀ k, k < 5 → nearN (farN x k)
theorem Co.near.all {x : Co} (h : x.near) : nearN x.j ∧ nearN x.c ∧ nearN x.m ∧ nearN x.tl ∧ nearN x.cy := ⟨h 0 (by omega), h 1 (by omega), h 2 (by omega), h 3 (by omega), h 4 (by omega)⟩
def RowFar (w : World) (B : Nat) (x : Co) : Prop := w.heap[B]? = some (.cells #[.int .i64 x.j, .int .i64 x.c, .int .i64 x.m, .int .i64 x.tl, .int .i64 x.cy] 3 (0, 0))
theorem RowFar.at' {w : World} {B : Nat} {x : Co} (h : RowFar w B x) {k : Nat} (hk : k < 5) : w.cell? ⟨B, k, none⟩ = some (.int .i64 (farN x k)) := by
  unfold RowFar at h
  rcases (by omega : k = 0 ∨ k = 1 ∨ k = 2 ∨ k = 3 ∨ k = 4) with rfl | rfl | rfl | rfl | rfl
  all_goals simp [World.cell?, h, farN]
/-- What Far answers. -/
def FarPost (w : World) (x : Co) (e : Ending) (w' : World) : Prop := ∃ b : Bool, e = .returned (.bool b) ∧ Below w.heap.size w w' ∧ (b = false → x.near)
set_option maxHeartbeats 3200000 in
theorem Far_c (x : Co) (w : World) :
    Calls Tryd.prog 8 #[x.v] w (FarPost w x) := by
  have HX := Lib.hid (Col9.new w x.l x.j x.c x.m x.a x.p x.fd x.tl x.cy)
  have HB := Lib.hid (below_on (below_new w (.cells #[.int .i64 x.l, .int .i64 x.j, .int .i64 x.c, .int .i64 x.m, .int .u64 x.a, .int .u64 x.p, .bool x.fd, .int .i64 x.tl, .int .i64 x.cy] 28)) (.cells #[.int .i64 x.j, .int .i64 x.c, .int .i64 x.m, .int .i64 x.tl, .int .i64 x.cy] 3))
  have HR : Hid (RowFar ((w.alloc (.cells #[.int .i64 x.l, .int .i64 x.j, .int .i64 x.c, .int .i64 x.m, .int .u64 x.a, .int .u64 x.p, .bool x.fd, .int .i64 x.tl, .int .i64 x.cy] 28)).alloc (.cells #[.int .i64 x.j, .int .i64 x.c, .int .i64 x.m, .int .i64 x.tl, .int .i64 x.cy] 3)) (w.heap.size + 1) x) := Lib.hid (by
    have := newBlock (w.alloc (.cells #[.int .i64 x.l, .int .i64 x.j, .int .i64 x.c, .int .i64 x.m, .int .u64 x.a, .int .u64 x.p, .bool x.fd, .int .i64 x.tl, .int .i64 x.cy] 28)) (.cells #[.int .i64 x.j, .int .i64 x.c, .int .i64 x.m, .int .i64 x.tl, .int .i64 x.cy] 3)
    unfold RowFar
    simpa using this)
  obtain ⟨a0, a1, a2, a3, a4, a5, a6, a7, a8, af⟩ := HX.out.cells
  go_enter Tryd.func8, Tryd.ntmps8
  go_wp2_with fail
  generalize (w.alloc (.cells #[.int .i64 x.l, .int .i64 x.j, .int .i64 x.c, .int .i64 x.m, .int .u64 x.a, .int .u64 x.p, .bool x.fd, .int .i64 x.tl, .int .i64 x.cy] 28)).alloc (.cells #[.int .i64 x.j, .int .i64 x.c, .int .i64 x.m, .int .i64 x.tl, .int .i64 x.cy] 3) = W at *
  clear HX a0 a1 a2 a3 a4 a5 a6 a7 a8 af
  go_loopw [4] (fun iv wr => ∃ k : Nat, iv = .int .i64 k ∧ k ≤ 5 ∧ Hid (wr = W) ∧ Hid (∀ i, i < k → nearN (farN x i))) (fun iv _ => 5 - (intOf iv).toNat)
  case atStart => exact ⟨0, rfl, by omega, Lib.hid rfl, Lib.hid (fun i hi => absurd hi (by omega))⟩
  case round =>
    obtain ⟨k, rfl, hk, hwr, HN⟩ := hrel
    obtain rfl := hwr.out
    by_cases hlt : k < 5
    · have ck := HR.out.at' hlt
      have hk0 : (0 : Int) ≤ (k : Int) := by omega
      have hk5 : (k : Int) < 5 := by omega
      by_cases h1 : 1000000 < farN x k
      · have d1 : decide (1000000 < farN x k) = true := decide_eq_true h1
        generalize farN x k = q at *
        go_wp2_with fail
        go_ret
        exact ⟨true, rfl, HB.out, fun e => by cases e⟩
      · have d1 : decide (1000000 < farN x k) = false := decide_eq_false h1
        by_cases h2 : farN x k < -1000000
        · have d2 : decide (farN x k < -1000000) = true := decide_eq_true h2
          generalize farN x k = q at *
          go_wp2_with fail
          go_ret
          exact ⟨true, rfl, HB.out, fun e => by cases e⟩
        · have d2 : decide (farN x k < -1000000) = false := decide_eq_false h2
          have HN2 : Hid (∀ i, i < k + 1 → nearN (farN x i)) := Lib.hid (fun i hi => by
            by_cases e : i = k
            · subst e; unfold nearN; omega
            · exact HN.out i (by omega))
          generalize farN x k = q at *
          clear HN
          go_wp2_with fail
          go_roundw
          case rel => exact ⟨k + 1, by go_num, by omega, Lib.hid (by first | trivial | rfl), HN2⟩
          case measure => simp [intOf]; omega
    · obtain rfl : k = 5 := by omega
      go_wp2_with fail
      go_ret
      exact ⟨false, rfl, HB.out, fun _ => HN.out⟩
end Go.Proofs.YtganbjgkobmdkaaDoor
