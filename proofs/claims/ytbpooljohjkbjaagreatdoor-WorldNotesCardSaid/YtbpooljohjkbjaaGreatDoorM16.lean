/- Laid together: WNLawP, WNLawE. -/
import Derived.Test.YtbpooljohjkbjaaGreatDoorM15
/- Rows of numbers; what the law WorldNotes carries. -/
namespace Go.Proofs.YtbpooljohjkbjaaGreatDoor
open Go Go.RowKit
set_option maxRecDepth 100000
attribute [local go_sem ↓] Go.wp_at_zero Go.wp_at_succ
def IvAt (w : World) (R n : Nat) (g : Nat → Nat) : Prop := w.rowIs R 3 n (fun i => .int .i64 ((g i : Nat) : Int))
namespace IvAt
variable {w w' : World} {R n : Nat} {g : Nat → Nat}
theorem cell (h : IvAt w R n g) {i : Nat} (hi : i < n) : w.cell? ⟨R, i, none⟩ = some (.int .i64 ((g i : Nat) : Int)) := World.rowIs.cell h hi
theorem frozen (h : IvAt w R n g) : ∀ j, w.frozen? ⟨R, j, none⟩ = false := fun j => World.rowIs.frozen h j
theorem lt (h : IvAt w R n g) : R < w.heap.size := World.rowIs.lt h
theorem other (h : IvAt w R n g) (e : w'.heap[R]? = w.heap[R]?) : IvAt w' R n g := World.rowIs.of_block h e
theorem set (h : IvAt w R n g) (i v : Nat) : IvAt (w.setCell ⟨R, i, none⟩ (.int .i64 (v : Int))) R n (upn g i v) := by
  refine World.rowIs.congr (World.rowIs.set h i (.int .i64 (v : Int))) (fun p _ => ?_)
  unfold upn
  by_cases e : p = i
  · rw [if_pos e, if_pos e]
  · rw [if_neg e, if_neg e]
end IvAt
theorem wmk_ints (n : Nat) (hn : n ≤ 1000) (w : World) : (Instr.makeSlice 25 (.int .i64 (n : Int)) (.int .i64 (n : Int))).run Tryz.prog w = .ok (.slice (some ⟨w.heap.size, 0, none⟩) n n) (w.alloc (.cells (madeCells #[.int .i64 0] n) 3)) :=
  run_make_row' 25 3 (.int .i64 0) 8 Tryz.underlying25 infoInt rfl .i64 .i64 n (by omega) (by omega) w
theorem iv_made (w : World) (n : Nat) : IvAt (w.alloc (.cells (madeCells #[.int .i64 0] n) 3)) w.heap.size n (fun _ => 0) := World.rowIs_made w (.int .i64 0) n 3
theorem box_other {W V : World} {B : Nat} {a b c d : Int} (h : BoxAt W B a b c d) (e : V.heap[B]? = W.heap[B]?) : BoxAt V B a b c d :=
  ⟨(World.cell?_of_block (a := ⟨B, 0, none⟩) e).trans h.1, (World.cell?_of_block (a := ⟨B, 1, none⟩) e).trans h.2.1, (World.cell?_of_block (a := ⟨B, 2, none⟩) e).trans h.2.2.1, (World.cell?_of_block (a := ⟨B, 3, none⟩) e).trans h.2.2.2⟩
structure NoW (w W : World) (q : WoK) (C : Cf) (S : Ws) (a b c d : Int) (nb : Nat) (no : Nat) (L : List Nt) (R1 R2 n : Nat) (g1 g2 : Nat → Nat) : Prop where
  wo : WoAt W q C S
  old : Below w.heap.size w W
  box : BoxAt W w.heap.size a b c d
  nts : ∀ k, (hk : k < L.length) → NtAt W nb (no + k * 7) L[k]
  r1 : IvAt W R1 n g1
  r2 : IvAt W R2 n g2
  hi : q.hi ≤ R1 ∧ q.hi ≤ R2
  ne : R1 ≠ R2 ∧ R1 ≠ nb ∧ R2 ≠ nb ∧ R1 ≠ w.heap.size ∧ R2 ≠ w.heap.size
  lo : w.heap.size ≤ q.lo
namespace NoW
variable {w W V : World} {q : WoK} {C : Cf} {S : Ws} {a b c d : Int} {nb no : Nat} {L : List Nt} {R1 R2 n : Nat} {g1 g2 : Nat → Nat}
theorem below (h : NoW w W q C S a b c d nb no L R1 R2 n g1 g2) (hb : Below W.heap.size W V) : NoW w V q C S a b c d nb no L R1 R2 n g1 g2 :=
  ⟨h.wo.below hb, belowOn h.old hb, h.box.below hb, fun k hk => (h.nts k hk).other (hb.block _ (lt_of_cell (h.nts k hk).1)), h.r1.other (hb.block _ h.r1.lt), h.r2.other (hb.block _ h.r2.lt), h.hi, h.ne, h.lo⟩
theorem drew (h : NoW w W q C S a b c d nb no L R1 R2 n g1 g2) : NoW w W.drew q C S a b c d nb no L R1 R2 n g1 g2 := h.below (Below.refl _ _).drew
theorem set2 (h : NoW w W q C S a b c d nb no L R1 R2 n g1 g2) (i v : Nat) : NoW w (W.setCell ⟨R2, i, none⟩ (.int .i64 (v : Int))) q C S a b c d nb no L R1 R2 n g1 (upn g2 i v) := by
  have key : ∀ k, k ≠ R2 → (W.setCell ⟨R2, i, none⟩ (.int .i64 (v : Int))).heap[k]? = W.heap[k]? := fun k hk => Below.heap_setCell _ _ _ _ hk
  have hn := h.ne; have hl := h.lo; have hh := h.wo.ne.h; have hhi := h.hi; have hg := h.wo.glo
  exact ⟨h.wo.out (h.wo.env.other (key _ (by have := hg.1; have := hh.1; have := hh.2; omega)) (key _ (by have := hg.2; have := hh.1; have := hh.2; omega))) (by simp [World.setCell]) (fun k _ h2 => key k (by omega)),
    h.old.trans (Below.old_set (by have := hh.1; have := hh.2; omega) W i _), box_other h.box (key _ hn.2.2.2.2.symm), fun k hk => (h.nts k hk).other (key _ hn.2.2.1.symm), h.r1.other (key _ hn.1), h.r2.set i v, hhi, hn, hl⟩
theorem set1 (h : NoW w W q C S a b c d nb no L R1 R2 n g1 g2) (i v : Nat) : NoW w (W.setCell ⟨R1, i, none⟩ (.int .i64 (v : Int))) q C S a b c d nb no L R1 R2 n (upn g1 i v) g2 := by
  have key : ∀ k, k ≠ R1 → (W.setCell ⟨R1, i, none⟩ (.int .i64 (v : Int))).heap[k]? = W.heap[k]? := fun k hk => Below.heap_setCell _ _ _ _ hk
  have hn := h.ne; have hl := h.lo; have hh := h.wo.ne.h; have hhi := h.hi; have hg := h.wo.glo
  exact ⟨h.wo.out (h.wo.env.other (key _ (by have := hg.1; have := hh.1; have := hh.2; omega)) (key _ (by have := hg.2; have := hh.1; have := hh.2; omega))) (by simp [World.setCell]) (fun k _ h2 => key k (by omega)),
    h.old.trans (Below.old_set (by have := hh.1; have := hh.2; omega) W i _), box_other h.box (key _ hn.2.2.2.1.symm), fun k hk => (h.nts k hk).other (key _ hn.2.1.symm), h.r1.set i v, h.r2.other (key _ hn.1.symm), hhi, hn, hl⟩
end NoW
theorem chk_cases {b : Int} {pr : Nat → List Opn} {σ σ1 : Sg} {x : Nt} (h : chk b pr σ x = some σ1) :
    (x.p = b ∧ 4 ≤ x.wh ∧ σ1 = σ) ∨ ∃ m : Nat, x.p = m ∧ (m : Int) < b ∧ x.p ≠ b ∧ ¬ 4 ≤ x.wh ∧ (pr m)[σ.1 m]? = some ⟨x.k, x.x, x.y, x.z⟩ ∧
      ((x.wh = 1 ∧ σ.2 m = 0 ∧ σ1 = (σ.1, upn σ.2 m 1)) ∨ (x.wh = 2 ∧ σ.2 m = 1 ∧ σ1 = (σ.1, upn σ.2 m 2)) ∨ (x.wh = 3 ∧ σ.2 m = 2 ∧ 1 ≤ x.n ∧ x.n ≤ 5 ∧ σ1 = (upn σ.1 m (σ.1 m + 1), upn σ.2 m 0)) ∨ (x.wh = 3 ∧ σ.2 m = 1 ∧ x.n = 6 ∧ σ1 = (upn σ.1 m (σ.1 m + 1), upn σ.2 m 0))) := by
  unfold chk at h
  split at h
  · rename_i hb
    split at h
    · rename_i h4; exact .inl ⟨hb, h4, (Option.some.inj h).symm⟩
    · cases h
  rename_i hb
  split at h
  · cases h
  rename_i hn
  obtain ⟨m, hm⟩ : ∃ m : Nat, x.p = m := ⟨x.p.toNat, by omega⟩
  have ht : x.p.toNat = m := by omega
  rw [ht] at h
  split at h
  · rename_i hop
    refine .inr ⟨m, hm, by omega, hb, by omega, hop, ?_⟩
    split at h
    · rename_i e; exact .inl ⟨e.1, e.2, (Option.some.inj h).symm⟩
    split at h
    · rename_i e; exact .inr (.inl ⟨e.1, e.2, (Option.some.inj h).symm⟩)
    split at h
    · rename_i e
      rcases e.2 with e2 | e2
      · exact .inr (.inr (.inl ⟨e.1, e2.1, e2.2.1, e2.2.2, (Option.some.inj h).symm⟩))
      · exact .inr (.inr (.inr ⟨e.1, e2.1, e2.2, (Option.some.inj h).symm⟩))
    · cases h
  · cases h
theorem wi_first {a b c d : Int} (P : List (List Opn)) : WI b (fun i => (P[i]?).getD []) (Ws0 a b c d P) (fun _ => 0, fun _ => 0) := fun _ _ => .inl ⟨rfl, rfl, rfl⟩
end Go.Proofs.YtbpooljohjkbjaaGreatDoor
/- The law WorldNotes, where there is no world. -/
namespace Go.Proofs.YtbpooljohjkbjaaGreatDoor
open Go Go.RowKit
set_option maxRecDepth 100000
attribute [local go_sem ↓] Go.wp_at_zero Go.wp_at_succ
theorem wn_no (a b c d : Int) {w : World} (he : Env w) {va vk : Option Addr} {cp ck : Nat} {P : List (List Opn)} {K : List Int} (hP : PrsSl w (.slice va P.length cp) P) (hr : ¬ Right a b c d) : Calls Tryz.prog 6 #[.agg #[.int .i64 a, .int .i64 b, .int .i64 c, .int .i64 d], .slice va P.length cp, .slice vk K.length ck] w fun e w' => e = .returned (.bool true) ∧ Below w.heap.size w w' := by
  have HX0 := Lib.hid (BoxAt.new w a b c d 23)
  have HB0 := Lib.hid (below_new w (.cells #[.int .i64 a, .int .i64 b, .int .i64 c, .int .i64 d] 23))
  have HE0 := Lib.hid (he.below (below_new w (.cells #[.int .i64 a, .int .i64 b, .int .i64 c, .int .i64 d] 23)))
  have HAw := Lib.hid (fun W (h : Env W) => wawake_c h)
  have HP := Lib.hid hP
  have HN := Lib.hid (fun W (h : Env W) => wnew_no a b c d hr h va P.length cp)
  clear he hP hr
  go_enter Tryz.func6, Tryz.ntmps6
  go_wp2_with fail
  refine (HAw.out _ HE0.out).mono ?_
  rintro e V1 ⟨rfl, hb⟩
  have HX1 := Lib.hid (HX0.out.below hb)
  have HB1 := Lib.hid (belowOn HB0.out hb)
  have HE1 := Lib.hid (HE0.out.below hb)
  clear hb HX0 HB0 HE0 HAw
  obtain ⟨x0, x1, x2, x3⟩ := HX1.out
  go_wp2_with fail
  refine (HN.out _ HE1.out).mono ?_
  rintro e V2 ⟨rfl, hb⟩
  have HX2 := Lib.hid (HX1.out.below hb)
  have HB2 := Lib.hid (belowOn HB1.out hb)
  clear hb HX1 HB1 HE1 HN x0 x1 x2 x3
  obtain ⟨x0, x1, x2, x3⟩ := HX2.out
  have HG := Lib.hid (wgreat_c a b c d (n := K.length) (a2 := vk) (cap2 := ck) (HP.out.below HB2.out))
  go_wp2_with fail
  refine HG.out.mono ?_
  rintro e V3 ⟨rb, rfl, _, hb⟩
  have HB3 := Lib.hid (belowOn HB2.out hb)
  clear hb HX2 HB2 HG x0 x1 x2 x3
  cases rb
  · go_wp2_with fail
    go_ret
    exact ⟨rfl, HB3.out⟩
  · go_wp2_with fail
    go_ret
    exact ⟨rfl, HB3.out⟩
theorem wn_many (a b c d : Int) {w : World} (he : Env w) {va vk : Option Addr} {cp ck : Nat} {P : List (List Opn)} {K : List Int} (hP : PrsSl w (.slice va P.length cp) P) (hr : Right a b c d) (hn : b < (P.length : Int)) : Calls Tryz.prog 6 #[.agg #[.int .i64 a, .int .i64 b, .int .i64 c, .int .i64 d], .slice va P.length cp, .slice vk K.length ck] w fun e w' => e = .returned (.bool true) ∧ Below w.heap.size w w' := by
  have HX0 := Lib.hid (BoxAt.new w a b c d 23)
  have HB0 := Lib.hid (below_new w (.cells #[.int .i64 a, .int .i64 b, .int .i64 c, .int .i64 d] 23))
  have HE0 := Lib.hid (he.below (below_new w (.cells #[.int .i64 a, .int .i64 b, .int .i64 c, .int .i64 d] 23)))
  have HAw := Lib.hid (fun W (h : Env W) => wawake_c h)
  have HP := Lib.hid hP
  have HN := Lib.hid (fun W (h : Env W) => wnew_many a b c d hr h va P.length cp hn)
  clear he hP hr hn
  go_enter Tryz.func6, Tryz.ntmps6
  go_wp2_with fail
  refine (HAw.out _ HE0.out).mono ?_
  rintro e V1 ⟨rfl, hb⟩
  have HX1 := Lib.hid (HX0.out.below hb)
  have HB1 := Lib.hid (belowOn HB0.out hb)
  have HE1 := Lib.hid (HE0.out.below hb)
  clear hb HX0 HB0 HE0 HAw
  obtain ⟨x0, x1, x2, x3⟩ := HX1.out
  go_wp2_with fail
  refine (HN.out _ HE1.out).mono ?_
  rintro e V2 ⟨rfl, hb⟩
  have HX2 := Lib.hid (HX1.out.below hb)
  have HB2 := Lib.hid (belowOn HB1.out hb)
  clear hb HX1 HB1 HE1 HN x0 x1 x2 x3
  obtain ⟨x0, x1, x2, x3⟩ := HX2.out
  have HG := Lib.hid (wgreat_c a b c d (n := K.length) (a2 := vk) (cap2 := ck) (HP.out.below HB2.out))
  go_wp2_with fail
  refine HG.out.mono ?_
  rintro e V3 ⟨rb, rfl, _, hb⟩
  have HB3 := Lib.hid (belowOn HB2.out hb)
  clear hb HX2 HB2 HG x0 x1 x2 x3
  cases rb
  · go_wp2_with fail
    go_ret
    exact ⟨rfl, HB3.out⟩
  · go_wp2_with fail
    go_ret
    exact ⟨rfl, HB3.out⟩
end Go.Proofs.YtbpooljohjkbjaaGreatDoor
