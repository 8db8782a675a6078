/- What a task reads; its step as a record. -/
import Derived.Test.YtglmecdbafceoaaDoorTickQ
namespace Go.Proofs.YtglmecdbafceoaaDoor
open Go Go.RowKit
set_option maxRecDepth 100000
attribute [local go_sem ↓] Go.wp_at_zero Go.wp_at_succ

/-- What a task reads first. -/
theorem QAt.s15 {w W : World} {B H A G k : Nat} {v : Value} {q : Que} (h : QAt w W B H A G k v q) {i : Nat} (hi : i < k) {l t : Int} (hl : q.line i = l) (ht : q.tk i = t) : W.cell? ⟨B, 0, none⟩ = some (.pointer (some ⟨H, 0, none⟩)) ∧ W.cell? ⟨B + 2, 0, none⟩ = some (.slice (some ⟨B + 1, 0, none⟩) k k) ∧ W.cell? ⟨B + 1, i * 13, none⟩ = some (.int .i64 l) ∧ W.cell? ⟨B + 1, i * 13 + 1, none⟩ = some (.int .i64 0) ∧ W.cell? ⟨B + 1, i * 13 + 2, none⟩ = some (.int .i64 0) ∧ W.cell? ⟨B + 1, i * 13 + 3, none⟩ = some (.int .i64 0) ∧ W.cell? ⟨B + 1, i * 13 + 4, none⟩ = some (.int .i64 0) ∧ W.cell? ⟨B + 1, i * 13 + 5, none⟩ = some (.int .u64 0) ∧ W.cell? ⟨B + 1, i * 13 + 6, none⟩ = some (.int .u64 0) ∧ W.cell? ⟨B + 1, i * 13 + 7, none⟩ = some (.int .u64 0) ∧ W.cell? ⟨B + 1, i * 13 + 8, none⟩ = some (.int .u64 0) ∧ W.cell? ⟨B + 1, i * 13 + 9, none⟩ = some (.int .u64 t) ∧ W.cell? ⟨B + 1, i * 13 + 10, none⟩ = some (.int .u64 0) ∧ W.cell? ⟨B + 1, i * 13 + 11, none⟩ = some (.int .i64 0) ∧ W.cell? ⟨B + 1, i * 13 + 12, none⟩ = some (.int .i64 0) := by
  subst hl ht
  exact ⟨h.cells.1, h.cells.2.1, h.all.cells hi⟩
theorem upd_same {f : Nat → Int} {i : Nat} {z : Int} (h : f i = z) : upd f i z = f := by
  funext j; unfold upd
  by_cases e : j = i
  · rw [if_pos e, e, h]
  · rw [if_neg e]
theorem step_wait {q : Que} {i : Nat} {t n m : Int} (hl : q.line i = 33) (htk : q.tk i = t) (ht : ¬ q.sv = t) (e3 : n = q.nx) (e4 : m = q.sv) : q.step i = { q with nx := n, sv := m, line := upd q.line i 33, tk := upd q.tk i t } := by
  subst e3 e4 htk
  unfold Que.step
  rw [if_neg (by omega), if_pos hl, if_neg ht, upd_same hl, upd_same rfl]
theorem step_draw {q : Que} {i : Nat} {n m : Int} (hl : q.line i = 32) (e3 : n = q.nx) (e4 : m = q.sv) : q.step i = { q with nx := sumW n 1, sv := m, order := q.order ++ [i], line := upd q.line i 33, tk := upd q.tk i n } := by
  subst e3 e4
  unfold Que.step
  rw [if_pos hl]
theorem step_give {q : Que} {i : Nat} {t n m : Int} (hl : q.line i = 37) (htk : q.tk i = t) (e3 : n = q.nx) (e4 : m = q.sv) : q.step i = { q with nx := n, sv := sumW m 1, ins := none, line := upd q.line i 32, tk := upd q.tk i t } := by
  subst e3 e4 htk
  unfold Que.step
  rw [if_neg (by omega), if_neg (by omega), upd_same (f := q.tk) rfl]
theorem step_won {q : Que} {i : Nat} {t n m g : Int} {l : List Nat} (hl : q.line i = 33) (htk : q.tk i = t) (ht : q.sv = t) (e3 : n = q.nx) (e4 : m = q.sv) (ho : q.order = i :: l) (hg : q.got i + 1 = g) : q.step i = { q with nx := n, sv := m, order := l, ins := some i, got := upd q.got i g, line := upd q.line i 37, tk := upd q.tk i t } := by
  subst e3 e4 htk hg
  unfold Que.step
  rw [if_neg (by omega), if_pos hl, if_pos ht, ho, upd_same (f := q.tk) rfl]
  rfl
theorem Holds_34 (t : Int) (w : World) : Calls Tryd.prog 7 #[mutV 34 0 0 0 0 0 0 0 0 0 0 t 0] w fun e w' => e = .returned (.bool true) ∧ Below w.heap.size w w' := Holds_c 34 0 0 0 0 0 0 0 0 0 0 t 0 w
theorem infoInt : (Tryd.prog.info? 3).map (fun i => (i.zero, i.size, i.bytes)) = some (some (.int .i64 0), 1, 8) := by kernel_rfl
end Go.Proofs.YtglmecdbafceoaaDoor
