/- The document's Regs, Text and Plain of an operation, for every operation. -/
import Derived.Test.YtaiioflhkmflgaaDoorOpRef
import Derived.Lib.Strings
namespace Go.Proofs.YtaiioflhkmflgaaDoor
open Go Go.RowKit
set_option maxRecDepth 100000
attribute [local go_sem ↓] Go.wp_at_zero Go.wp_at_succ

theorem codeF_out {k : Int} (h : ¬ okK k) (i : Nat) : codeF k.toNat i = 0 := by
  unfold codeF; rw [hsL_out (no_nat h)]; simp
theorem refPart_any (k : Int) (i : Nat) (hi : i < 3) (w : World) : Calls Tryd.prog 21 #[.int .i64 k, .int .i64 (i : Int)] w fun e w' => e = .returned (.int .i64 (codeF k.toNat i)) ∧ w = w' := by
  by_cases hk : okK k
  · obtain ⟨m, rfl, h1, h2⟩ := hk.nat
    exact refPart_yes m h1 h2 i hi w
  · rw [codeF_out hk]
    exact refPart_no k hk i w
/-- The registers among the first i numbers. -/
def regsTo (m : Nat) (x y z : Int) (i : Nat) : List Int := (List.range i).filterMap fun j => if codeF m j = 1 then some (numF x y z j) else none
theorem regsTo_succ (m : Nat) (x y z : Int) (i : Nat) : regsTo m x y z (i + 1) = regsTo m x y z i ++ (if codeF m i = 1 then [numF x y z i] else []) := by
  unfold regsTo
  rw [List.range_succ, List.filterMap_append]
  by_cases h : codeF m i = 1 <;> simp [h]
theorem regsTo_len (m : Nat) (x y z : Int) (i : Nat) : (regsTo m x y z i).length ≤ i := by
  unfold regsTo
  have := List.length_filterMap_le (fun j => if codeF m j = 1 then some (numF x y z j) else none) (List.range i)
  simpa using this
theorem regsTo_all (k x y z : Int) : regsTo k.toNat x y z 3 = regsL k x y z := by
  by_cases hk : okK k
  · obtain ⟨m, rfl, h1, h2⟩ := hk.nat
    obtain rfl | rfl | rfl | rfl | rfl | rfl | rfl | rfl | rfl | rfl | rfl := kind_cases h1 h2
    all_goals rfl
  · unfold regsL
    rw [nums_no hk]
    unfold regsTo
    simp [codeF_out hk]
def intV (x : Int) : Value := .int .i64 x
theorem infoInt : (Tryd.prog.info? 3).map (fun i => (i.zero, i.size, i.bytes)) = some (some (.int .i64 0), 1, 8) := by kernel_rfl
structure RegsAt (w W : World) (v : Value) (k x y z : Int) (l : List Int) : Prop where
  row : W.ownsRow (w.heap.size + 1) 3 1 v l.length (l.map intV)
  op : Arr4 W w.heap.size 25 k x y z
  old : Below w.heap.size w W
theorem RegsAt.on {w W W' : World} {v : Value} {k x y z : Int} {l : List Int} (h : RegsAt w W v k x y z l) (hb : Below W.heap.size W W') : RegsAt w W' v k x y z l := ⟨ownsRow_below4 h.row hb, h.op.below hb, belowOn h.old hb⟩
/-- A row of numbers of the call's own. -/
def IntsOwn (w W : World) (v : Value) (l : List Int) : Prop := W.ownsRow w.heap.size 3 1 v l.length (l.map intV)
set_option maxHeartbeats 6400000 in
theorem refRegs_c (k x y z : Int) (w : World) :
    Calls Tryd.prog 8 #[.agg #[.int .i64 k, .int .i64 x, .int .i64 y, .int .i64 z]] w fun e w' => ∃ v, e = .returned v ∧ IntsOwn w w' v (regsL k x y z) ∧ Below w.heap.size w w' := by
  obtain ⟨i3, hi3, hz0, hz1, hz2⟩ := info_parts infoInt
  have H0 : Hid (RegsAt w (w.alloc (.cells #[.int .i64 k, .int .i64 x, .int .i64 y, .int .i64 z] 25)) (.slice none 0 0) k x y z (regsTo k.toNat x y z 0)) := Lib.hid ⟨World.ownsRow_nil _ _ _ _, Arr4.new _ _ _ _ _ _, below_new _ _⟩
  have HP := Lib.hid (refPart_any k)
  have HM := Lib.hid (refNumber_c k x y z)
  have HF := Lib.hid (regsTo_all k x y z)
  have HS := Lib.hid (regsTo_succ k.toNat x y z)
  have HN := Lib.hid (regsTo_len k.toNat x y z)
  generalize regsL k x y z = RL at *
  go_enter Tryd.func8, Tryd.ntmps8
  go_wp2_with fail
  go_loopw [3, 4] (fun v vi wr => ∃ j : Nat, vi = .int .i64 j ∧ j ≤ 3 ∧ Hid (RegsAt w wr v k x y z (regsTo k.toNat x y z j))) (fun _ vi _ => 3 - (intOf vi).toNat)
  case atStart => exact ⟨0, rfl, by omega, H0⟩
  case round =>
    clear H0
    obtain ⟨j, rfl, hj, HR⟩ := hrel
    by_cases hlt : j < 3
    · obtain ⟨o0, o1, o2, o3, _⟩ := HR.out.op.cells
      have hl := HN.out j
      have HS1 := Lib.hid (HS.out j)
      clear HS HF HN
      go_wp2_with fail
      refine (HP.out j hlt _).mono ?_
      rintro e W1 ⟨rfl, rfl⟩
      have hcc := codeF_cases k.toNat j
      generalize codeF k.toNat j = cf at *
      by_cases hcf : cf = 1
      · have HE : Hid (regsTo k.toNat x y z (j + 1) = regsTo k.toNat x y z j ++ [numF x y z j]) := Lib.hid (by rw [HS1.out, if_pos hcf])
        subst hcf
        clear HS1 hcc HP
        go_wp2_with fail
        refine (HM.out j hlt _).mono ?_
        rintro e W1 ⟨rfl, hW1⟩
        have HR1 := Lib.hid (HR.out.on hW1)
        clear HR hW1 o0 o1 o2 o3 HM
        generalize numF x y z j = n at *
        generalize regsTo k.toNat x y z j = rl at *
        have hm : w.heap.size < W1.heap.size := HR1.out.op.lt
        have hO := HR1.out.row
        go_wp2_with (at_builtin; refine wpList_append_lies _ (by rfl) _ _ _ (by rfl) (w.heap.size + 1) 3 i3 _ 1 8 Tryd.underlying27 hi3 hz0 hz1 hz2 rfl (by omega) u3 rl.length _ (by rfl) (hO.alloc _) ⟨W1.heap.size, 0, none⟩ 1 1 [.int .i64 n] (by rfl) (by rfl) (World.news_of_block (cs := #[.int .i64 n]) (t := 3) (fr := (0, 0)) (heap_alloc_new W1 _)) (by simp [Value.oneCell']) (by omega) (by unfold maxLen; omega) (by omega) (by simp; omega) (W1.heap.size + 1) (by simp) ?_; intro gg cap' w2 hown1 hgrow hat hlt2)
        have HR2 : Hid (RegsAt w w2 (.slice (some ⟨gg, 0, none⟩) (rl.length + 1) cap') k x y z (rl ++ [n])) := Lib.hid (by
          have hR := HR1.out.on (below_new W1 (.cells #[.int .i64 n] 3))
          refine ⟨by rw [List.length_append, List.map_append]; exact hown1, ?_, hR.old.grown hgrow hR.old.size (fun q e => by have := (hO.lt q e).1; omega)⟩
          exact hR.op.other (hgrow.block _ hR.op.lt (fun e => by have := (hO.lt _ e.symm).1; omega)))
        clear hown1 hgrow hat hlt2 hO HR1
        go_roundw
        case rel => exact ⟨j + 1, by go_num, by omega, by rw [HE.out]; exact HR2⟩
        case measure => simp [intOf]; omega
      · have HE : Hid (regsTo k.toNat x y z (j + 1) = regsTo k.toNat x y z j) := Lib.hid (by rw [HS1.out, if_neg hcf, List.append_nil])
        have hq : (cf == 1) = false := by simpa using hcf
        clear HS1 hcc HP HM
        go_wp2_with fail
        go_roundw
        case rel => exact ⟨j + 1, by go_num, by omega, by rw [HE.out]; exact HR⟩
        case measure => simp [intOf]; omega
    · obtain rfl : j = 3 := by omega
      rw [HF.out] at HR
      clear HS HF HN HP HM
      go_wp2_with fail
      go_ret
      refine ⟨_, rfl, ?_, HR.out.old⟩
      obtain ⟨h1, h2⟩ := HR.out.row
      refine ⟨h1, h2.imp id (fun ⟨g, cap, cur, e1, e2, e3⟩ => ⟨g, cap, cur, e1, by omega, e3⟩)⟩
end Go.Proofs.YtaiioflhkmflgaaDoor
