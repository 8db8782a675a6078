/- A task's step, whatever it is at; bytes; rows that are made. -/
import Derived.Test.YtglmecdbafceoaaDoorTickQw
import Derived.Test.YtglmecdbafceoaaDoorTickQg
import Derived.Test.YtglmecdbafceoaaDoorTickQd
import Derived.Test.YtglmecdbafceoaaDoorTickQn
namespace Go.Proofs.YtglmecdbafceoaaDoor
open Go Go.RowKit
set_option maxRecDepth 100000
attribute [local go_sem ↓] Go.wp_at_zero Go.wp_at_succ

theorem Que.got_le {q : Que} (i j : Nat) : (q.step i).got j ≤ q.got j + 1 := by
  unfold Que.step
  repeat' split
  · show q.got j ≤ _; omega
  · show upd q.got i (q.got i + 1) j ≤ _
    unfold upd
    by_cases e : j = i
    · rw [if_pos e, e]; exact Int.le_refl _
    · rw [if_neg e]; omega
  · omega
  · show q.got j ≤ _; omega
/-- A task's step. -/
theorem task_c {w W : World} {B H A G k : Nat} {v : Value} {q : Que} (hQ : QAt w W B H A G k v q) {i : Nat} (hi : i < k) (hI : q.Inv k) (hg : ∀ j, q.got j ≤ 1000000) :
    Calls Tryd.prog 15 #[.int .i64 (i : Int), .pointer (some ⟨B, 0, none⟩), .pointer (some ⟨B + 2, 0, none⟩), .pointer (some ⟨B + 3, 0, none⟩), .pointer (some ⟨B + 6, 0, none⟩), .pointer (some ⟨B + 5, 0, none⟩)] W fun e w' => e = .returned (.bool true) ∧ ∃ v', QAt w w' B H A G k v' (q.step i) := by
  have hlen := hI.len
  have hk := hI.kk
  rcases hI.line i hi with ⟨h, _⟩ | ⟨h, _⟩ | ⟨h, _⟩
  · exact task_draw hQ hi h (by omega)
  · by_cases ht : q.sv = q.tk i
    · obtain ⟨h1, h2⟩ := (hI.turn hi h).1 ht
      obtain ⟨l, ho⟩ : ∃ l, q.order = i :: l := by
        cases ho : q.order with
        | nil => rw [ho] at h2; simp at h2
        | cons a l => rw [ho] at h2; simp at h2; exact ⟨l, by rw [h2]⟩
      exact task_won hQ hi h ht h1 ho ⟨hI.got i, hg i⟩
    · exact task_wait hQ hi h ht
  · exact task_give hQ hi h
/-- All tasks at first. -/
def que0 (v : Int) : Que := ⟨v, v, fun _ => 32, fun _ => 0, [], none, fun _ => 0⟩
theorem que0_inv {v : Int} (hv : U64 v) {k : Nat} (hk : k ≤ 6) : (que0 v).Inv k :=
  ⟨hk, hv, List.nodup_nil, (fun i h => by cases h), (fun i _ => .inl ⟨rfl, by simp [que0]⟩), (fun i h => by cases h), (offW_zero hv).symm, (fun j i h => by simp [que0] at h), fun _ => Int.le_refl _⟩
/-- The tasks, and how often each can have got it. -/
def QSt (w W : World) (B H A G k N : Nat) (v : Value) (q : Que) : Prop := QAt w W B H A G k v q ∧ q.Inv k ∧ ∀ j, q.got j ≤ N
theorem QSt.go {w W : World} {B H A G k N : Nat} {v : Value} {q : Que} (h : QSt w W B H A G k N v q) (hN : N ≤ 1000000) {i : Nat} (hi : i < k) :
    Calls Tryd.prog 15 #[.int .i64 (i : Int), .pointer (some ⟨B, 0, none⟩), .pointer (some ⟨B + 2, 0, none⟩), .pointer (some ⟨B + 3, 0, none⟩), .pointer (some ⟨B + 6, 0, none⟩), .pointer (some ⟨B + 5, 0, none⟩)] W fun e w' => e = .returned (.bool true) ∧ ∃ v', QSt w w' B H A G k (N + 1) v' (q.step i) :=
  (task_c h.1 hi h.2.1 (fun j => by have := h.2.2 j; omega)).mono fun _ _ ⟨h1, v', h2⟩ => ⟨h1, v', h2, h.2.1.step hi, fun j => by have := h.2.2 j; have := Que.got_le (q := q) i j; omega⟩
/-- Each task has got the lock, or has so many picks to wait. -/
def QWait (q : Que) (k i n : Nat) : Prop := ∀ t, t < k → 0 < q.got t ∨ q.wait k t i + n ≤ 2 * k * k + 3 * k
theorem QWait.first {q : Que} {k : Nat} (h : q.Inv k) : QWait q k 0 0 := fun t ht => by
  by_cases hg : 0 < q.got t
  · exact .inl hg
  · exact .inr (Que.wait_first h ht hg)
theorem QWait.step {q : Que} {k i n : Nat} (h : QWait q k i n) (hI : q.Inv k) (hi : i < k) : QWait (q.step i) k (nextP k i) (n + 1) := fun t ht => by
  by_cases hg : 0 < q.got t
  · exact .inl (Que.got_step hg)
  · rcases Que.wait_step hI ht hi hg with h1 | h1
    · rcases h t ht with h2 | h2
      · exact absurd h2 hg
      · exact .inr (by omega)
    · exact .inl h1
theorem QWait.last {q : Que} {k : Nat} (h : QWait q k 0 ((4 * k + 4) * k)) {t : Nat} (ht : t < k) : 0 < q.got t := by
  rcases h t ht with h1 | h1
  · exact h1
  · have e : (4 * k + 4) * k = 4 * k * k + 4 * k := by rw [Nat.add_mul]
    have e2 : 4 * k * k = 2 * (2 * k * k) := by rw [← Nat.mul_assoc, ← Nat.mul_assoc]
    rw [e, e2] at h1
    omega
/-- A slice of bytes. -/
def BytesAt (w : World) (a : Option Addr) (n : Nat) (f : Nat → Nat) : Prop := n = 0 ∨ ∃ b off, a = some ⟨b, off, none⟩ ∧ b < w.heap.size ∧ ∀ j, j < n → w.cell? ⟨b, off + j, none⟩ = some (.int .u8 (f j : Int))
theorem BytesAt.below {w w' : World} {a : Option Addr} {n : Nat} {f : Nat → Nat} (h : BytesAt w a n f) (hb : Below w.heap.size w w') : BytesAt w' a n f := by
  rcases h with h | ⟨b, off, h1, h2, h3⟩
  · exact .inl h
  · exact .inr ⟨b, off, h1, by have := hb.size; omega, fun j hj => (hb.cell (p := ⟨b, off + j, none⟩) h2).trans (h3 j hj)⟩
def GivenB (W : World) (a : Option Addr) (n : Nat) (f : Nat → Nat) : Prop := n ≤ 9223372036854775807 ∧ BytesAt W a n f ∧ ∀ j, f j < 256
theorem infoMut : (Tryd.prog.info? 30).map (fun i => (i.zero, i.size, i.bytes)) = some (some (.agg #[.int .i64 0, .int .i64 0, .int .i64 0, .int .i64 0, .int .i64 0, .int .u64 0, .int .u64 0, .int .u64 0, .int .u64 0, .int .u64 0, .int .u64 0, .int .i64 0, .int .i64 0]), 13, 104) := by kernel_rfl
def zM : Array Value := #[.int .i64 0, .int .i64 0, .int .i64 0, .int .i64 0, .int .i64 0, .int .u64 0, .int .u64 0, .int .u64 0, .int .u64 0, .int .u64 0, .int .u64 0, .int .i64 0, .int .i64 0]
theorem make_muts (n : Nat) (hn : n ≤ 1000) (w : World) : (Instr.makeSlice 47 (.int .i64 (n : Int)) (.int .i64 (n : Int))).run Tryd.prog w = .ok (.slice (some ⟨w.heap.size, 0, none⟩) n n) (w.alloc (.cells (madeCells zM (n * 13)) 30)) := by
  obtain ⟨i, hi, hzz⟩ := Option.map_eq_some_iff.1 infoMut
  simp only [Prod.mk.injEq] at hzz
  obtain ⟨hz, hs, hb⟩ := hzz
  have hr := run_make (P := Tryd.prog) w 47 30 i _ Tryd.underlying47 hi hz .i64 .i64 n n (by omega) (Int.le_refl _) (by rw [hb]; omega) (by omega)
  simp only [Int.toNat_natCast, hs] at hr
  exact hr
theorem make_ints (n : Nat) (hn : n ≤ 1000) (w : World) : (Instr.makeSlice 48 (.int .i64 (n : Int)) (.int .i64 (n : Int))).run Tryd.prog w = .ok (.slice (some ⟨w.heap.size, 0, none⟩) n n) (w.alloc (.cells (madeCells #[.int .i64 0] n) 3)) :=
  run_make_row' 48 3 (.int .i64 0) 8 Tryd.underlying48 infoInt rfl .i64 .i64 n (by omega) (by omega) w
theorem muts_made (w : World) (k : Nat) : MutsAt (w.alloc (.cells (madeCells zM (k * 13)) 30)) w.heap.size k (fun _ => 0) (fun _ => 0) := by
  refine ⟨_, newBlock _ _, ?_, fun p hp => ?_⟩
  · rw [size_madeCells, Nat.mul_comm]
  · have hp : p < k * 13 := by omega
    obtain ⟨r, hr, hp2⟩ : ∃ r, r < 13 ∧ p % 13 = r := ⟨p % 13, by omega, rfl⟩
    have : (madeCells zM (k * 13))[p]? = some (zM[p % 13]?.getD default) := by simp [madeCells, hp, zM]
    rw [this, hp2]
    show _ = some (mcell 0 0 (p % 13))
    rw [hp2]
    rcases (by omega : r = 0 ∨ r = 1 ∨ r = 2 ∨ r = 3 ∨ r = 4 ∨ r = 5 ∨ r = 6 ∨ r = 7 ∨ r = 8 ∨ r = 9 ∨ r = 10 ∨ r = 11 ∨ r = 12) with rfl | rfl | rfl | rfl | rfl | rfl | rfl | rfl | rfl | rfl | rfl | rfl | rfl
    all_goals rfl
theorem MutsAt.setL {w : World} {R k : Nat} {line tk : Nat → Int} (h : MutsAt w R k line tk) (i : Nat) (l : Int) : MutsAt (w.setCell ⟨R, i * 13, none⟩ (.int .i64 l)) R k (upd line i l) tk := by
  refine World.rowIs.congr (World.rowIs.set h (i * 13) (.int .i64 l)) (fun p _ => ?_)
  unfold upd
  by_cases e : p = i * 13
  · rw [if_pos e, if_pos (by omega), show p % 13 = 0 by omega]; rfl
  · rw [if_neg e]
    by_cases e2 : p / 13 = i
    · rw [if_pos e2]
      have h0 : ¬ p % 13 = 0 := by omega
      unfold mcell
      rw [if_neg h0, if_neg h0]
    · rw [if_neg e2]
/-- Ahead of the picks: the row of tasks is laid, up to the i-th. -/
structure Q1 (w W : World) (B H A G k i : Nat) (fr : Int) : Prop where
  old : Below w.heap.size w W
  lo : w.heap.size ≤ H ∧ w.heap.size ≤ G ∧ H < B ∧ A < B ∧ G < B
  hand : HAt W H A G C13 ⟨qF fr, 0, 0, 0, 0, 0⟩
  bh : W.heap[B]? = some (.cells #[.pointer (some ⟨H, 0, none⟩)] 33 (0, 0))
  ba : W.heap[B + 2]? = some (.cells #[.slice (some ⟨B + 1, 0, none⟩) k k] 47 (0, 0))
  all : MutsAt W (B + 1) k (fun j => if j < i then 32 else 0) (fun _ => 0)
  size : W.heap.size = B + 3
theorem Q1.first {w W : World} {H A G : Nat} {fr : Int} (k : Nat) (ho : Below w.heap.size w W) (hF : HAt W H A G C13 ⟨qF fr, 0, 0, 0, 0, 0⟩) (h1 : w.heap.size ≤ H) (h2 : w.heap.size ≤ G) :
    Q1 w (((W.alloc (.cells #[.pointer (some ⟨H, 0, none⟩)] 33)).alloc (.cells (madeCells zM (k * 13)) 30)).alloc (.cells #[.slice (some ⟨W.heap.size + 1, 0, none⟩) k k] 47)) W.heap.size H A G k 0 fr := by
  have b1 := below_new W (.cells #[.pointer (some ⟨H, 0, none⟩)] 33)
  have b2 := below_new (W.alloc (.cells #[.pointer (some ⟨H, 0, none⟩)] 33)) (.cells (madeCells zM (k * 13)) 30)
  have b3 := below_new ((W.alloc (.cells #[.pointer (some ⟨H, 0, none⟩)] 33)).alloc (.cells (madeCells zM (k * 13)) 30)) (.cells #[.slice (some ⟨W.heap.size + 1, 0, none⟩) k k] 47)
  refine ⟨belowOn (belowOn (belowOn ho b1) b2) b3, ⟨h1, h2, hF.lt, hF.ar.lt, hF.ar.row.lt⟩, ((hF.below b1).below b2).below b3, ?_, ?_, ?_, by simp⟩
  · exact (b3.block _ (by simp; omega)).trans ((b2.block _ (by simp)).trans (newBlock _ _))
  · have := newBlock ((W.alloc (.cells #[.pointer (some ⟨H, 0, none⟩)] 33)).alloc (.cells (madeCells zM (k * 13)) 30)) (.cells #[.slice (some ⟨W.heap.size + 1, 0, none⟩) k k] 47)
    simpa using this
  · have := (muts_made (W.alloc (.cells #[.pointer (some ⟨H, 0, none⟩)] 33)) k).other (b3.block _ (by simp))
    simpa using this
theorem Q1.drew {w W : World} {B H A G k i : Nat} {fr : Int} (h : Q1 w W B H A G k i fr) : Q1 w W.drew B H A G k i fr := ⟨h.old.drew, h.lo, h.hand.drew, h.bh, h.ba, h.all, h.size⟩
theorem Q1.set {w W : World} {B H A G k i : Nat} {fr : Int} (h : Q1 w W B H A G k i fr) : Q1 w (W.setCell ⟨B + 1, i * 13, none⟩ (.int .i64 32)) B H A G k (i + 1) fr := by
  have h1 := h.lo
  have k1 : ∀ j, j ≠ B + 1 → (W.setCell ⟨B + 1, i * 13, none⟩ (.int .i64 32)).heap[j]? = W.heap[j]? := fun j hj => Below.heap_setCell _ _ _ _ hj
  refine ⟨h.old.setCell (p := ⟨B + 1, i * 13, none⟩) (by show w.heap.size ≤ B + 1; omega) _, h.lo, h.hand.other (k1 _ (by omega)) (k1 _ (by omega)) (k1 _ (by omega)), (k1 _ (by omega)).trans h.bh, (k1 _ (by omega)).trans h.ba, ?_, by simpa [World.setCell] using h.size⟩
  have := h.all.setL i 32
  refine World.rowIs.congr this (fun p _ => ?_)
  unfold upd
  dsimp only
  by_cases e : p / 13 = i
  · rw [if_pos e, if_pos (by omega)]
  · rw [if_neg e]
    by_cases e2 : p / 13 < i
    · rw [if_pos e2, if_pos (by omega)]
    · rw [if_neg e2, if_neg (by omega)]
theorem Q1.queue {w W : World} {B H A G k : Nat} {fr : Int} (hfr : U64 fr) (h : Q1 w W B H A G k k fr) :
    QAt w ((((W.alloc (.cells #[.slice none 0 0] 48)).alloc (.cells (madeCells #[.int .i64 0] k) 3)).alloc (.cells #[.slice (some ⟨B + 4, 0, none⟩) k k] 48)).alloc (.cells #[.int .i64 (-1)] 3)) B H A G k (.slice none 0 0) (que0 fr) := by
  have hz := h.size
  have s1 : (W.alloc (.cells #[.slice none 0 0] 48)).heap.size = B + 4 := by simp [hz]
  have b1 := below_new W (.cells #[.slice none 0 0] 48)
  have n1 := newBlock W (.cells #[.slice none 0 0] 48)
  rw [hz] at n1
  generalize W.alloc (.cells #[.slice none 0 0] 48) = W1 at *
  have s2 : (W1.alloc (.cells (madeCells #[.int .i64 0] k) 3)).heap.size = B + 5 := by simp [s1]
  have b2 := below_new W1 (.cells (madeCells #[.int .i64 0] k) 3)
  have n2 := World.rowIs_made W1 (.int .i64 0) k 3
  rw [s1] at n2
  generalize W1.alloc (.cells (madeCells #[.int .i64 0] k) 3) = W2 at *
  have s3 : (W2.alloc (.cells #[.slice (some ⟨B + 4, 0, none⟩) k k] 48)).heap.size = B + 6 := by simp [s2]
  have b3 := below_new W2 (.cells #[.slice (some ⟨B + 4, 0, none⟩) k k] 48)
  have n3 := newBlock W2 (.cells #[.slice (some ⟨B + 4, 0, none⟩) k k] 48)
  rw [s2] at n3
  generalize W2.alloc (.cells #[.slice (some ⟨B + 4, 0, none⟩) k k] 48) = W3 at *
  have b4 := below_new W3 (.cells #[.int .i64 (-1)] 3)
  have n4 := newBlock W3 (.cells #[.int .i64 (-1)] 3)
  rw [s3] at n4
  have k1 : ∀ j, j < B + 3 → (W3.alloc (.cells #[.int .i64 (-1)] 3)).heap[j]? = W.heap[j]? := fun j hj => (b4.block j (by omega)).trans ((b3.block j (by omega)).trans ((b2.block j (by omega)).trans (b1.block j (by omega))))
  refine ⟨belowOn (belowOn (belowOn (belowOn h.old b1) b2) b3) b4, h.lo, ⟨_, (((h.hand.below b1).below b2).below b3).below b4, qF_u64 hfr, rfl, rfl⟩, (k1 _ (by omega)).trans h.bh, (k1 _ (by omega)).trans h.ba, ?_, (b4.block _ (by omega)).trans ((b3.block _ (by omega)).trans ((b2.block _ (by omega)).trans n1)), Slid.nil _ _, (n2.of_block (b3.block _ (by omega))).of_block (b4.block _ (by omega)), (b4.block _ (by omega)).trans n3, n4⟩
  exact World.rowIs.congr (h.all.other (k1 _ (by omega))) (fun p hp => by dsimp only; rw [if_pos (by omega)]; rfl)
theorem QSt.mono {w W : World} {B H A G k N M : Nat} {v : Value} {q : Que} (h : QSt w W B H A G k N v q) (hN : N ≤ M) : QSt w W B H A G k M v q := ⟨h.1, h.2.1, fun j => by have := h.2.2 j; omega⟩
theorem QSt.below {w W V : World} {B H A G k N : Nat} {v : Value} {q : Que} (h : QSt w W B H A G k N v q) (hb : Below W.heap.size W V) : QSt w V B H A G k N v q := ⟨h.1.below hb, h.2⟩
theorem QSt.drew {w W : World} {B H A G k N : Nat} {v : Value} {q : Que} (h : QSt w W B H A G k N v q) : QSt w W.drew B H A G k N v q := ⟨h.1.drew, h.2⟩
end Go.Proofs.YtglmecdbafceoaaDoor
