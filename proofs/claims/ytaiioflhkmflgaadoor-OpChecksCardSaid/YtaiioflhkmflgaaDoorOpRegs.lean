/- Package op's Regs: the registers of any operation, told one behind the other. -/
import Derived.Test.YtaiioflhkmflgaaDoorOpSeq
namespace Go.Proofs.YtaiioflhkmflgaaDoor
open Go Go.RowKit Go.Shelf
attribute [local go_sem] Oper.semAt_some
set_option maxRecDepth 100000

def regOf (x : Int × Int) : Option Int := if x.1 = 114 then some x.2 else none
/-- An operation's registers. -/
def regsL (k a b c : Int) : List Int := (nums k a b c).filterMap regOf
theorem regs_snoc (pre : List (Int × Int)) (x : Int × Int) : (pre ++ [x]).filterMap regOf = pre.filterMap regOf ++ (regOf x).toList := by
  rw [List.filterMap_append]; cases h : regOf x <;> simp [h]
def enc1 (x : Int) : Array Value := #[Value.int .i64 x]
theorem opRegs_c (k a b c : Int) (w : World) : Calls Tryd.prog 9 #[.agg #[.int .i64 k, .int .i64 a, .int .i64 b, .int .i64 c]] w fun e w' =>
    e = .returned (.func (.func 23) #[] #[.pointer (some ⟨w.heap.size, 0, none⟩)]) ∧ w' = w.alloc (.cells #[.int .i64 k, .int .i64 a, .int .i64 b, .int .i64 c] 25) := by
  go_enter Tryd.func9, Tryd.ntmps9
  go_wp2
  go_ret
  exact ⟨rfl, rfl⟩
theorem OwnFrom.up {β : Type} {B B' : Nat} {I : β → World → Prop} (h : OwnFrom B I) (hb : B ≤ B') : OwnFrom B' I := fun s A A' row hs hg hr => h s A A' row hs hg (fun r e => ⟨Nat.le_trans hb (hr r e).1, (hr r e).2⟩)
theorem cells_kept {A A' : World} {row : Option Nat} {B : Nat} {cs : Array Value} {t : TypeId} {fz : Nat × Nat} (h : A.heap[B]? = some (.cells cs t fz)) (hg : A.grownBy A' row) (hr : ∀ r, row = some r → ∃ o : Obj, A.heap[r]? = some o ∧ o.isCells = false) : A'.heap[B]? = some (.cells cs t fz) :=
  (hg.block B (Array.getElem?_eq_some_iff.1 h).1 (fun e => by
    obtain ⟨o, ho, hc⟩ := hr B e.symm
    rw [h] at ho; cases ho; cases hc)).trans h
theorem roomNone {F : Fence} (hd : F.depth = none) (k : Nat) : F.room k := fun d h => by rw [hd] at h; cases h
theorem roundWide {m m' l' : Nat} {P : Program} {l : Nat} {f : FuncId} {tmps : Array Value} {assign body : Code} {w : World} {R : Ending → World → Prop}
    (h : RoundIn Fence.wide m P l f tmps assign body w R) : RoundIn (Fence.wide.inRound l') m' P l f tmps assign body w R := ⟨h.1, fun c cs _ => h.2 c cs (roomNone rfl _)⟩

set_option maxHeartbeats 4000000 in
theorem regs_seq (e₀ : TypeId) (he : 64 ≠ e₀) (hy₀ : 47 ≠ e₀) (n : Nat) (hn : 1 ≤ n) (B : Nat) (k a b c : Int) (w : World) (hX : Arr4 w B 25 k a b c) (hR : RowsAt w) :
    SeqL e₀ Fence.wide n Tryd.prog 23 #[.pointer (some ⟨B, 0, none⟩)] enc1 (regsL k a b c) w := fun l J Jx W hW hJ hJx hY h0 => by
  have hX' := hX.other (hW.block _ hX.lt)
  have hbA : Below W.heap.size W (W.alloc (.cells #[.func (.yield l) #[] #[]] 47)) := below_new _ _
  have hX2 := hX'.other (hbA.block _ hX'.lt)
  obtain ⟨x0, x1, x2, x3, xf⟩ := hX2.cells
  have hR2 := (hR.below hW).below hbA
  have hyb : (W.alloc (.cells #[.func (.yield l) #[] #[]] 47)).heap[W.heap.size]? = some (.cells #[.func (.yield l) #[] #[]] 47 (0, 0)) := World.alloc_heap_new W _
  have h0a := hJ.alloc (.cells #[.func (.yield l) #[] #[]] 47) h0
  have HYB := Lib.hid hyb; have HR := Lib.hid hR2; have H0 := Lib.hid h0a
  have hBlt : B < W.heap.size := hX'.lt
  obtain ⟨x0', x1', x2', x3', _⟩ := hX'.cells
  clear hyb hR2 h0a h0 hX2 hX' hX hR xf
  refine callsIn_of_wp_marks Tryd.func23 rfl trivial ?_ rfl
  simp only [Tryd.ntmps23, List.size_toArray, List.length_cons, List.length_nil, Nat.reduceAdd, Nat.reduceSub, Array.replicate_succ, Array.replicate_zero, List.push_toArray, List.append_toArray, List.nil_append, List.cons_append]
  gi_wp2_with fail
  refine ⟨trivial, ?_⟩
  refine (callsIn_wide.2 (opNumbers_c k a b c _)).mono ?_
  rintro e W2 ⟨rfl, rfl⟩
  clear x0 x1 x2 x3 x0' x1' x2' x3'
  have hb2 := below_new (W.alloc (.cells #[.func (.yield l) #[] #[]] 47)) (.cells #[.int .i64 k, .int .i64 a, .int .i64 b, .int .i64 c] 25)
  have hseq := numbers_seq e₀ he (n - 1) _ k a b c _ (Arr4.new (W.alloc (.cells #[.func (.yield l) #[] #[]] 47)) 25 k a b c) (HR.out.below hb2)
  have hyb2 := (hb2.block W.heap.size (by simp)).trans HYB.out
  have h02 := hJ.alloc (.cells #[.int .i64 k, .int .i64 a, .int .i64 b, .int .i64 c] 25) H0.out
  rw [show (W.alloc (.cells #[.func (.yield l) #[] #[]] 47)).heap.size = W.heap.size + 1 by simp] at hseq ⊢
  have HS := Lib.hid hseq; have HY2 := Lib.hid hyb2; have H02 := Lib.hid h02
  have hz2 : ((W.alloc (.cells #[.func (.yield l) #[] #[]] 47)).alloc (.cells #[.int .i64 k, .int .i64 a, .int .i64 b, .int .i64 c] 25)).heap.size = W.heap.size + 2 := by simp
  clear hseq hyb2 h02 hb2 HYB H0 HR hbA
  generalize (W.alloc (.cells #[.func (.yield l) #[] #[]] 47)).alloc (.cells #[.int .i64 k, .int .i64 a, .int .i64 b, .int .i64 c] 25) = W2 at *
  gi_wp2
  refine wpIn_rangeL rfl hn (gf := 33) (lb := #[.pointer (some ⟨W.heap.size + 1, 0, none⟩)]) rfl trivial (enters_of Tryd.func33 (by kernel_rfl) rfl)
    HS.out (Below.refl _ _) (fun _ => rfl)
    (fun pre W' => J (pre.filterMap regOf) W' ∧ W'.heap[W.heap.size]? = some (.cells #[.func (.yield l) #[] #[]] 47 (0, 0)))
    (fun c pre W' => c = .ret ∧ Jx (pre.filterMap regOf) W')
    (OwnFrom.and (fun s A B row hs hg hr => hJ (s.filterMap regOf) A B row hs hg (fun r e => ⟨by have := (hr r e).1; omega, (hr r e).2⟩)) (Own.from (fun s A B row hs hg hr => cells_kept hs hg hr) _))
    (fun c => OwnFrom.and (ownFrom_pure _ _) (fun s A B row hs hg hr => hJx (s.filterMap regOf) A B row hs hg (fun r e => ⟨by have := (hr r e).1; omega, (hr r e).2⟩)))
    ⟨H02.out, HY2.out⟩
    (fun x => { tmps := #[.func (.yield l) #[] #[], .pointer (some ⟨B, 0, none⟩), .pointer (some ⟨W.heap.size, 0, none⟩), .int .i32 x.1, .int .i64 x.2, .agg #[.int .i64 k, .int .i64 a, .int .i64 b, .int .i64 c], .func (.func 33) #[] #[.pointer (some ⟨W.heap.size + 1, 0, none⟩)], .int .i32 x.1, .int .i64 x.2, undef, undef, undef, undef, undef, undef, undef, undef], defers := [] }) ?assign ?body ?done ?stop
  case assign =>
    intro l' x W' K hK
    simp only [enc2]
    gi_wp2
    exact hK
  case body =>
    rintro l' pre ⟨x1, x2⟩ W' ⟨hj, hyh⟩ hpre
    have hyc : W'.cell? ⟨W.heap.size, 0, none⟩ = some (.func (.yield l) #[] #[]) := by simp [World.cell?, hyh]
    have HYH := Lib.hid hyh
    clear hyh
    have hpr : (pre ++ [(x1, x2)]).filterMap regOf <+: regsL k a b c := hpre.filterMap _
    by_cases hcx : x1 = 114
    · have hco : regOf (x1, x2) = some x2 := if_pos hcx
      rw [regs_snoc, hco] at hpr
      obtain ⟨fn, tmps, assign, body, hy, hR⟩ := hY (pre.filterMap regOf) x2 W' hj hpr
      have HC := Lib.hid hco
      clear hco hpr hpre hY HS
      simp only [enc1] at hy
      gi_wp2
      refine ⟨fun h => (by cases h), ?_⟩
      refine (roundWide hR).mono ?_
      rintro e W3 (⟨rfl, hJ3, hq3⟩ | ⟨rfl, hJx3, hq3⟩)
      · gi_wp2
        exact ⟨hq3.up (by omega), by rw [regs_snoc, HC.out]; exact hJ3, hq3.cells (Nat.le_refl _) hy₀ HYH.out⟩
      · gi_wp2
        exact ⟨hq3.up (by omega), rfl, by rw [regs_snoc, HC.out]; exact hJx3⟩
    · have hco : regOf (x1, x2) = none := if_neg hcx
      have HC := Lib.hid hco
      have hq : (x1 == 114) = false := by simpa using hcx
      clear hY hco hpr hpre HS
      gi_wp2
      refine ⟨fun _ h => (by cases h), ?_⟩
      gi_wp2
      exact ⟨KeepsTop.refl _ _ _, by rw [regs_snoc, HC.out]; simpa using hj, HYH.out⟩
  case done =>
    rintro D W' hD ⟨hj, _⟩ hK
    gi_wp2
    refine ⟨by simp, .inl ⟨_, _, rfl, run_takeDeferred hK, ?_⟩⟩
    exact ⟨_, results_none rfl _ _ _, ⟨_, rfl⟩, .inl (hJ.putObj _ hj (by omega) hK rfl)⟩
  case stop =>
    rintro D c pre W' hD hpre ⟨rfl, hj⟩ hK
    gi_wp2
    refine ⟨by simp, .inl ⟨_, _, rfl, run_takeDeferred hK, ?_⟩⟩
    exact ⟨_, results_none rfl _ _ _, ⟨_, rfl⟩, .inr ⟨_, hpre.filterMap _, hJx.putObj _ hj (by omega) hK rfl⟩⟩
end Go.Proofs.YtaiioflhkmflgaaDoor
