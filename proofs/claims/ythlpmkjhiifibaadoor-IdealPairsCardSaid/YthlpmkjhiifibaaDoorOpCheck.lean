/- Package op's Check, for every configuration and every operation: whether it is right, or which fault it has. -/
import Derived.Test.YthlpmkjhiifibaaDoorOpRegs
import Derived.RangeFuncKeeps
namespace Go.Proofs.YthlpmkjhiifibaaDoor
open Go Go.RowKit Go.Shelf
attribute [local go_sem] Oper.semAt_some
set_option maxRecDepth 100000

instance (a b c d : Int) : Decidable (Right a b c d) := by unfold Right; exact inferInstance
instance (k : Int) : Decidable (okK k) := by unfold okK; exact inferInstance
/-- A number is inside. -/
def okP (c d : Int) (x : Int × Int) : Prop := 0 ≤ x.2 ∧ x.2 ≤ lastF c d x.1
instance (c d : Int) (x : Int × Int) : Decidable (okP c d x) := by unfold okP; exact inferInstance
/-- The error's number of an operation. -/
def checkF (a b c d k x y z : Int) : Int := if Right a b c d then (if okK k then (if ∀ p ∈ nums k x y z, okP c d p then 0 else 2) else 4) else 1

theorem Arr4.own {A A' : World} {row : Option Nat} {B : Nat} {t : TypeId} {x0 x1 x2 x3 : Int} (h : Arr4 A B t x0 x1 x2 x3) (hg : A.grownBy A' row) (hr : ∀ r, row = some r → ∃ o : Obj, A.heap[r]? = some o ∧ o.isCells = false) : Arr4 A' B t x0 x1 x2 x3 :=
  (hg.block B h.lt (fun e => by
    obtain ⟨o, ho, hc⟩ := hr B e.symm
    unfold Arr4 at h
    rw [h] at ho; cases ho; cases hc)).trans h
/-- Check's own memory: the configuration, the operation, and the result. -/
structure ChkAt (w W : World) (a b c d k x y z v : Int) : Prop where
  cfg : Arr4 W w.heap.size 25 a b c d
  op : Arr4 W (w.heap.size + 1) 35 k x y z
  res : W.cell? ⟨w.heap.size + 2, 0, none⟩ = some (.int .i64 v)
  free : W.frozen? ⟨w.heap.size + 2, 0, none⟩ = false
  old : Below w.heap.size w W
theorem ChkAt.on {w W W' : World} {a b c d k x y z v : Int} (h : ChkAt w W a b c d k x y z v) (hb : Below W.heap.size W W') : ChkAt w W' a b c d k x y z v :=
  ⟨h.cfg.below hb, h.op.below hb, (hb.cell (p := ⟨_, 0, none⟩) (lt_of_cell h.res)).trans h.res, (hb.frozen (p := ⟨_, 0, none⟩) (lt_of_cell h.res)).trans h.free, belowOn h.old hb⟩
theorem ChkAt.own {w A A' : World} {row : Option Nat} {a b c d k x y z v : Int} (h : ChkAt w A a b c d k x y z v) (hg : A.grownBy A' row) (hr : ∀ r, row = some r → w.heap.size ≤ r ∧ ∃ o : Obj, A.heap[r]? = some o ∧ o.isCells = false) : ChkAt w A' a b c d k x y z v :=
  have hr' : ∀ r, row = some r → ∃ o : Obj, A.heap[r]? = some o ∧ o.isCells = false := fun r e => (hr r e).2
  ⟨h.cfg.own hg hr', h.op.own hg hr', cell_kept h.res hg hr', (frozen_kept h.res hg hr').trans h.free, h.old.grown hg h.old.size (fun k e => (hr k e).1)⟩
theorem ChkAt.set {w W : World} {a b c d k x y z v : Int} (h : ChkAt w W a b c d k x y z v) (u : Int) : ChkAt w (W.setCell ⟨w.heap.size + 2, 0, none⟩ (.int .i64 u)) a b c d k x y z u :=
  ⟨h.cfg.other (Below.heap_setCell W _ _ _ (by simp)), h.op.other (Below.heap_setCell W _ _ _ (by simp)), World.cell?_setCell_same' W _ _ (by rw [h.res]; rfl), by rw [World.frozen?_setCell]; exact h.free, h.old.setCell (p := ⟨w.heap.size + 2, 0, none⟩) (by simp) _⟩
def chk0 (w : World) (a b c d k x y z : Int) : World := ((w.alloc (.cells #[.int .i64 a, .int .i64 b, .int .i64 c, .int .i64 d] 25)).alloc (.cells #[.int .i64 k, .int .i64 x, .int .i64 y, .int .i64 z] 35)).alloc (.cells #[.int .i64 0] 28)
theorem ChkAt.new (w : World) (a b c d k x y z : Int) : ChkAt w (chk0 w a b c d k x y z) a b c d k x y z 0 := by
  unfold chk0
  refine ⟨?_, ?_, ?_, ?_, below_on (below_on (below_new w _) _) _⟩
  · exact ((Arr4.new w _ a b c d).below (below_new _ _)).below (below_new _ _)
  · have := (Arr4.new (w.alloc (.cells #[.int .i64 a, .int .i64 b, .int .i64 c, .int .i64 d] 25)) 35 k x y z).below (below_new _ (.cells #[.int .i64 0] 28))
    rw [show (w.alloc (.cells #[.int .i64 a, .int .i64 b, .int .i64 c, .int .i64 d] 25)).heap.size = w.heap.size + 1 by simp] at this
    exact this
  · have := World.cell?_alloc_new ((w.alloc (.cells #[.int .i64 a, .int .i64 b, .int .i64 c, .int .i64 d] 25)).alloc (.cells #[.int .i64 k, .int .i64 x, .int .i64 y, .int .i64 z] 35)) #[.int .i64 0] 28 0
    simpa using this
  · have := World.frozen?_alloc_new ((w.alloc (.cells #[.int .i64 a, .int .i64 b, .int .i64 c, .int .i64 d] 25)).alloc (.cells #[.int .i64 k, .int .i64 x, .int .i64 y, .int .i64 z] 35)) #[.int .i64 0] 28 0
    simpa using this
theorem check_notRight (a b c d k x y z : Int) (hr : ¬ Right a b c d) (w : World) (hS : SpansAt w) :
    Calls Tryd.prog 24 #[.agg #[.int .i64 a, .int .i64 b, .int .i64 c, .int .i64 d], .agg #[.int .i64 k, .int .i64 x, .int .i64 y, .int .i64 z]] w fun e w' => e = .returned (.int .i64 1) ∧ Below w.heap.size w w' := by
  have H0 := Lib.hid (ChkAt.new w a b c d k x y z)
  have HC := Lib.hid (check_wrong a b c d hr _ (hS.below H0.out.old))
  unfold chk0 at H0 HC
  clear hr hS
  go_enter Tryd.func24, Tryd.ntmps24
  go_wp2_with fail
  refine HC.out.mono ?_
  rintro e W ⟨rfl, hW⟩
  have H1 := Lib.hid (H0.out.on hW)
  have hc := H1.out.res; have hf := H1.out.free
  clear H0 HC hW
  go_wp2_with fail
  have hc5 := (H1.out.set 1).res
  refine bodyPost_ret (v := .int .i64 1) (by simp [results, Tryd.f24, go_sem, hc5]) rfl ?_
  exact ⟨rfl, (H1.out.set 1).old⟩
theorem check_notKind (a b c d k x y z : Int) (hr : Right a b c d) (hk : ¬ okK k) (w : World) (hS : SpansAt w) :
    Calls Tryd.prog 24 #[.agg #[.int .i64 a, .int .i64 b, .int .i64 c, .int .i64 d], .agg #[.int .i64 k, .int .i64 x, .int .i64 y, .int .i64 z]] w fun e w' => e = .returned (.int .i64 4) ∧ Below w.heap.size w w' := by
  have H0 := Lib.hid (ChkAt.new w a b c d k x y z)
  have HC := Lib.hid (check_right a b c d hr _ (hS.below H0.out.old))
  have HK := Lib.hid (isKind_no k hk)
  unfold chk0 at H0 HC
  clear hr hS hk
  go_enter Tryd.func24, Tryd.ntmps24
  go_wp2_with fail
  refine HC.out.mono ?_
  rintro e W ⟨rfl, hW⟩
  have H1 := Lib.hid (H0.out.on hW)
  obtain ⟨o0, _, _, _, _⟩ := H1.out.op.cells
  clear H0 HC hW
  go_wp2_with fail
  refine (HK.out _).mono ?_
  rintro e W2 ⟨rfl, rfl⟩
  have hc := H1.out.res; have hf := H1.out.free
  clear HK
  go_wp2_with fail
  have hc5 := (H1.out.set 4).res
  refine bodyPost_ret (v := .int .i64 4) (by simp [results, Tryd.f24, go_sem, hc5]) rfl ?_
  exact ⟨rfl, (H1.out.set 4).old⟩
set_option maxHeartbeats 4000000 in
theorem check_kind (a b c d : Int) (m : Nat) (h1 : 1 ≤ m) (h2 : m ≤ 11) (x y z : Int) (hr : Right a b c d) (w : World) (hS : SpansAt w) (hR : RowsAt w) :
    Calls Tryd.prog 24 #[.agg #[.int .i64 a, .int .i64 b, .int .i64 c, .int .i64 d], .agg #[.int .i64 (m : Int), .int .i64 x, .int .i64 y, .int .i64 z]] w fun e w' => e = .returned (.int .i64 (if ∀ p ∈ nums m x y z, okP c d p then 0 else 2)) ∧ Below w.heap.size w w' := by
  have HV0 : Hid ((∀ p ∈ nums m x y z, okP c d p) → (if ∀ p ∈ nums m x y z, okP c d p then 0 else 2 : Int) = 0) := Lib.hid (fun h => if_pos h)
  have HV2 : Hid ((¬ ∀ p ∈ nums m x y z, okP c d p) → (if ∀ p ∈ nums m x y z, okP c d p then 0 else 2 : Int) = 2) := Lib.hid (fun h => if_neg h)
  generalize (if ∀ p ∈ nums m x y z, okP c d p then 0 else 2 : Int) = V at *
  have H0 := Lib.hid (ChkAt.new w a b c d m x y z)
  have HC := Lib.hid (check_right a b c d hr _ (hS.below H0.out.old))
  have HK := Lib.hid (isKind_yes m h1 h2)
  have HR := Lib.hid hR
  have HL := Lib.hid (fun v => last_c a b c d v hr)
  unfold chk0 at H0 HC
  clear hr hS hR h1 h2
  refine (callsIn_wide (n := 20)).1 ?_
  refine callsIn_of_wp_marks Tryd.func24 rfl trivial ?_ rfl
  simp only [Tryd.ntmps24, List.size_toArray, List.length_cons, List.length_nil, Nat.reduceAdd, Nat.reduceSub, Array.replicate_succ, Array.replicate_zero, List.push_toArray, List.append_toArray, List.nil_append, List.cons_append]
  gi_wp2_with fail
  refine ⟨trivial, ?_⟩
  refine (callsIn_wide.2 HC.out).mono ?_
  rintro e W ⟨rfl, hW⟩
  have H1 := Lib.hid (H0.out.on hW)
  obtain ⟨o0, o1, o2, o3, _⟩ := H1.out.op.cells
  clear H0 HC hW
  gi_wp2_with fail
  refine ⟨trivial, ?_⟩
  refine (callsIn_wide.2 (HK.out _)).mono ?_
  rintro e W2 ⟨rfl, rfl⟩
  clear HK
  gi_wp2_with fail
  refine ⟨trivial, ?_⟩
  refine (callsIn_wide.2 (opNumbers_c m x y z _)).mono ?_
  rintro e W2 ⟨rfl, hW2⟩
  have hb2 : Below W.heap.size W W2 := by rw [hW2]; exact below_new _ _
  have hX2 : Arr4 W2 W.heap.size 35 m x y z := by rw [hW2]; exact Arr4.new _ _ _ _ _ _
  have H2 := Lib.hid (H1.out.on hb2)
  have HS := Lib.hid (numbers_seq 9 (by decide) (20 - 1) _ m x y z _ hX2 (HR.out.below H2.out.old))
  have hz2 : w.heap.size + 2 < W2.heap.size := lt_of_cell H2.out.res
  clear hb2 hX2 H1 o0 o1 o2 o3 hW2
  gi_wp2
  refine wpIn_rangeL rfl (by decide) (gf := 54) (lb := #[.pointer (some ⟨W.heap.size, 0, none⟩)]) rfl trivial (enters_of Tryd.func54 (by kernel_rfl) rfl)
    HS.out (Below.refl _ _) (fun _ => rfl)
    (fun pre W' => (∀ p ∈ pre, okP c d p) ∧ ChkAt w W' a b c d m x y z 0)
    (fun cc pre W' => (cc = .ret ∧ ¬ ∀ p ∈ pre, okP c d p) ∧ ChkAt w W' a b c d m x y z 2)
    (OwnFrom.and (ownFrom_pure _ _) (fun s A B row hs hg hrr => hs.own hg (fun r e => ⟨by have := (hrr r e).1; omega, (hrr r e).2⟩)))
    (fun cc => OwnFrom.and (ownFrom_pure _ _) (fun s A B row hs hg hrr => hs.own hg (fun r e => ⟨by have := (hrr r e).1; omega, (hrr r e).2⟩)))
    ⟨by simp, H2.out⟩
    (fun q => { tmps := #[.agg #[.int .i64 a, .int .i64 b, .int .i64 c, .int .i64 d], .agg #[.int .i64 (m : Int), .int .i64 x, .int .i64 y, .int .i64 z], .pointer (some ⟨w.heap.size, 0, none⟩), .pointer (some ⟨w.heap.size + 1, 0, none⟩), .pointer (some ⟨w.heap.size + 1 + 1, 0, none⟩), .int .i32 q.1, .int .i64 q.2,
      .agg #[.int .i64 a, .int .i64 b, .int .i64 c, .int .i64 d], .int .i64 0, .bool false, .pointer (some ⟨w.heap.size + 1, 0, none⟩), .int .i64 (m : Int), .bool true, .bool false, .agg #[.int .i64 (m : Int), .int .i64 x, .int .i64 y, .int .i64 z], .func (.func 54) #[] #[.pointer (some ⟨W.heap.size, 0, none⟩)],
      .int .i32 q.1, .int .i64 q.2, undef, undef, undef, undef, undef, undef, undef, undef, undef], defers := [] }) ?assign ?body ?done ?stop
  case assign =>
    intro l' q W' K hK
    simp only [enc2]
    gi_wp2
    exact hK
  case body =>
    rintro l' pre ⟨u, v⟩ W' ⟨hok, hC⟩ hpre
    have HC := Lib.hid hC
    clear hC hpre HS
    by_cases hv : v < 0
    · have HN : Hid (¬ ∀ p ∈ pre ++ [(u, v)], okP c d p) := Lib.hid (fun h => by have := (h (u, v) (by simp)).1; simp only at this; omega)
      have hc := HC.out.res; have hf := HC.out.free
      clear hok
      gi_wp2
      refine ⟨trivial, ?_⟩
      gi_wp2
      exact ⟨KeepsTop.of_grownBy (grownBy_setCell' W' _ _) (fun j e => by cases e; omega), ⟨rfl, HN.out⟩, HC.out.set 2⟩
    · have hv' : 0 ≤ v := by omega
      obtain ⟨c0, c1, c2, c3, _⟩ := HC.out.cfg.cells
      have HO := Lib.hid hok
      clear hok
      gi_wp2_with fail
      refine ⟨trivial, ?_⟩
      refine (CallsIn.inRound l' (callsIn_wide.2 (HL.out u _))).mono ?_
      rintro e W3 ⟨rfl, hW3⟩
      have HC3 := Lib.hid (HC.out.on hW3)
      have HT3 : Hid (KeepsTop 9 W2.heap.size W' W3) := Lib.hid (KeepsTop.of_below hW3)
      have hc := HC3.out.res; have hf := HC3.out.free
      clear HC hW3 c0 c1 c2 c3 HL
      by_cases hle : lastF c d u < v
      · have HN : Hid (¬ ∀ p ∈ pre ++ [(u, v)], okP c d p) := Lib.hid (fun h => by have := (h (u, v) (by simp)).2; simp only at this; omega)
        generalize lastF c d u = lu at *
        gi_wp2
        exact ⟨HT3.out.trans (KeepsTop.of_grownBy (grownBy_setCell' W3 _ _) (fun j e => by cases e; omega)), ⟨rfl, HN.out⟩, HC3.out.set 2⟩
      · have HN : Hid (∀ p ∈ pre ++ [(u, v)], okP c d p) := Lib.hid (fun p hp => by
          rcases List.mem_append.1 hp with hp | hp
          · exact HO.out p hp
          · obtain rfl : p = (u, v) := by simpa using hp
            exact ⟨hv', by simp only; omega⟩)
        generalize lastF c d u = lu at *
        gi_wp2
        exact ⟨HT3.out, HN.out, HC3.out⟩
  case done =>
    rintro D W' hD ⟨hok, hC⟩ hK
    have HC := Lib.hid hC; have HO := Lib.hid hok
    have hc := HC.out.res; have hf := HC.out.free
    clear hC hok HS
    gi_wp2
    have hK' := (KeepsOthers.setCell W' ⟨w.heap.size + 2, 0, none⟩ (.int .i64 0)).same D _ hK rfl
    refine ⟨by simp, .inl ⟨_, _, rfl, run_takeDeferred hK', ?_⟩⟩
    have hC5 := (HC.out.set 0).own (grownBy_putObj' _ D (.deferred none)) (fun r e => by cases e; exact ⟨by omega, _, hK', rfl⟩)
    have hc5 := hC5.res
    refine ⟨.int .i64 0, ?_, by rw [HV0.out HO.out], hC5.old⟩
    simp [results, Tryd.f24, go_sem, hc5]
  case stop =>
    rintro D cc pre W' hD hpre ⟨⟨rfl, hnot⟩, hC⟩ hK
    have HC := Lib.hid hC
    have HN : Hid (¬ ∀ p ∈ nums m x y z, okP c d p) := Lib.hid (fun h => hnot (fun p hp => h p (hpre.subset hp)))
    clear hC hnot hpre HS
    gi_wp2
    refine ⟨by simp, .inl ⟨_, _, rfl, run_takeDeferred hK, ?_⟩⟩
    have hC5 := HC.out.own (grownBy_putObj' _ D (.deferred none)) (fun r e => by cases e; exact ⟨by omega, _, hK, rfl⟩)
    have hc5 := hC5.res
    refine ⟨.int .i64 2, ?_, by rw [HV2.out HN.out], hC5.old⟩
    simp [results, Tryd.f24, go_sem, hc5]
theorem opCheck_c (a b c d k x y z : Int) (w : World) (hS : SpansAt w) (hR : RowsAt w) :
    Calls Tryd.prog 24 #[.agg #[.int .i64 a, .int .i64 b, .int .i64 c, .int .i64 d], .agg #[.int .i64 k, .int .i64 x, .int .i64 y, .int .i64 z]] w fun e w' => e = .returned (.int .i64 (checkF a b c d k x y z)) ∧ Below w.heap.size w w' := by
  unfold checkF
  by_cases hr : Right a b c d
  · rw [if_pos hr]
    by_cases hk : okK k
    · rw [if_pos hk]
      obtain ⟨m, rfl, h1, h2⟩ := hk.nat
      exact check_kind a b c d m h1 h2 x y z hr w hS hR
    · rw [if_neg hk]
      exact check_notKind a b c d k x y z hr hk w hS
  · rw [if_neg hr]
    exact check_notRight a b c d k x y z hr w hS
end Go.Proofs.YthlpmkjhiifibaaDoor
