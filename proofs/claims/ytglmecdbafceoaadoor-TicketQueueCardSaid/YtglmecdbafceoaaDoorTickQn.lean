/- A task whose turn it is. -/
import Derived.Test.YtglmecdbafceoaaDoorTickQl
namespace Go.Proofs.YtglmecdbafceoaaDoor
open Go Go.RowKit
set_option maxRecDepth 100000
attribute [local go_sem ↓] Go.wp_at_zero Go.wp_at_succ

set_option maxHeartbeats 3200000 in
theorem task_won {w W : World} {B H A G k : Nat} {v : Value} {q : Que} (hQ : QAt w W B H A G k v q) {i : Nat} (hi : i < k) (hl : q.line i = 33) (ht : q.sv = q.tk i) (hin : q.ins = none) {l : List Nat} (ho : q.order = i :: l) (hg0 : 0 ≤ q.got i ∧ q.got i ≤ 1000000) :
    Calls Tryd.prog 15 #[.int .i64 (i : Int), .pointer (some ⟨B, 0, none⟩), .pointer (some ⟨B + 2, 0, none⟩), .pointer (some ⟨B + 3, 0, none⟩), .pointer (some ⟨B + 6, 0, none⟩), .pointer (some ⟨B + 5, 0, none⟩)] W fun e w' => e = .returned (.bool true) ∧ ∃ v', QAt w w' B H A G k v' (q.step i) := by
  obtain ⟨⟨f, k0, i0, x0, y0, o0⟩, hH, hu, e3, e4⟩ := hQ.hand
  dsimp only at e3 e4
  have HU : Hid (Dy.U ⟨f, 1, 4, 0, 0, f 4⟩) := Lib.hid (by first | exact hu | exact fun j => upd_u64 hu _ (sumW_u64 _ _) j)
  generalize htk : q.tk i = t at *
  have HT : Hid (∀ W, HAt W H A G C13 ⟨f, k0, i0, x0, y0, o0⟩ → _) := Lib.hid (fun W h => tick_c (w := W) (H := H) (A := A) (G := G) h hu (tM 33 t))
  rw [tick_wait, if_pos (e4.trans ht)] at HT
  have HL := Lib.hid hl; have HTk := Lib.hid htk
  have HQ0 := Lib.hid hQ.drew
  have HF0 : Hid (HAt W.drew H A G C13 ⟨f, k0, i0, x0, y0, o0⟩) := Lib.hid hH.drew
  have HE3 := Lib.hid e3; have HE4 := Lib.hid e4
  obtain ⟨p0, p1, p2, p3, p4, p5, p6, p7, p8, p9, p10, p11, p12, p13, p14⟩ := hQ.s15 hi hl htk
  have hi0 : (0 : Int) ≤ (i : Int) := by omega
  have hik : (i : Int) < (k : Int) := by omega
  clear hQ hH hu e3 e4 hl htk
  go_enter Tryd.func15, Tryd.ntmps15
  go_wp2_with fail
  refine wp_region_held_drew (S := (fun w' => w'.cell? ⟨B, 0, none⟩ = some (.pointer (some ⟨H, 0, none⟩)) ∧ w'.cell? ⟨B + 2, 0, none⟩ = some (.slice (some ⟨B + 1, 0, none⟩) k k) ∧ w'.cell? ⟨B + 1, i * 13, none⟩ = some (.int .i64 33) ∧ w'.cell? ⟨B + 1, i * 13 + 1, none⟩ = some (.int .i64 0) ∧ w'.cell? ⟨B + 1, i * 13 + 2, none⟩ = some (.int .i64 0) ∧ w'.cell? ⟨B + 1, i * 13 + 3, none⟩ = some (.int .i64 0) ∧ w'.cell? ⟨B + 1, i * 13 + 4, none⟩ = some (.int .i64 0) ∧ w'.cell? ⟨B + 1, i * 13 + 5, none⟩ = some (.int .u64 0) ∧ w'.cell? ⟨B + 1, i * 13 + 6, none⟩ = some (.int .u64 0) ∧ w'.cell? ⟨B + 1, i * 13 + 7, none⟩ = some (.int .u64 0) ∧ w'.cell? ⟨B + 1, i * 13 + 8, none⟩ = some (.int .u64 0) ∧ w'.cell? ⟨B + 1, i * 13 + 9, none⟩ = some (.int .u64 t) ∧ w'.cell? ⟨B + 1, i * 13 + 10, none⟩ = some (.int .u64 0) ∧ w'.cell? ⟨B + 1, i * 13 + 11, none⟩ = some (.int .i64 0) ∧ w'.cell? ⟨B + 1, i * 13 + 12, none⟩ = some (.int .i64 0))) (by kernel_rfl) ?_ (fun hHeld => ?_)
  · exact ⟨p0, p1, p2, p3, p4, p5, p6, p7, p8, p9, p10, p11, p12, p13, p14⟩
  refine wpAnyH_take (i := 0) (oi := { dst := some 11, op := Op.load 33 (Operand.tmp 1), type := 33, pos := "law.go:76", after := #[], guard := none }) (v := ?vq0) rfl (by kernel_rfl) (by kernel_rfl) (by kernel_rfl) (fun _ _ _ h => h) (Or.inl ⟨by rfl, ?hyq0⟩) hHeld ?_
  case hyq0 => (intro w hSw; (try dsimp only at hSw); go_simp; (try with_reducible rfl))
  try simp only [Act.put, List.setIfInBounds_toArray, List.set_cons_zero, List.set_cons_succ]
  refine wpAnyH_take (i := 1) (oi := { dst := some 12, op := Op.load 47 (Operand.tmp 2), type := 47, pos := "law.go:76", after := #[], guard := none }) (v := ?vq1) rfl (by kernel_rfl) (by kernel_rfl) (by kernel_rfl) (fun _ _ _ h => h) (Or.inl ⟨by rfl, ?hyq1⟩) hHeld ?_
  case hyq1 => (intro w hSw; (try dsimp only at hSw); go_simp; (try with_reducible rfl))
  try simp only [Act.put, List.setIfInBounds_toArray, List.set_cons_zero, List.set_cons_succ]
  refine wpAnyH_take (i := 2) (oi := { dst := some 13, op := Op.move (Operand.tmp 0), type := 3, pos := "law.go:76", after := #[], guard := none }) (v := ?vq2) rfl (by kernel_rfl) (by kernel_rfl) (by kernel_rfl) (fun _ _ _ h => h) (Or.inl ⟨by rfl, ?hyq2⟩) hHeld ?_
  case hyq2 => (intro w hSw; (try dsimp only at hSw); go_simp; (try with_reducible rfl))
  try simp only [Act.put, List.setIfInBounds_toArray, List.set_cons_zero, List.set_cons_succ]
  refine wpAnyH_take (i := 3) (oi := { dst := some 14, op := Op.indexAddr 47 (Operand.tmp 12) (Operand.tmp 13), type := 0, pos := "law.go:76", after := #[{ on := 1, ground := Ground.data }, { on := 2, ground := Ground.data }], guard := none }) (v := ?vq3) rfl (by kernel_rfl) (by kernel_rfl) (by kernel_rfl) (fun _ _ _ h => h) (Or.inl ⟨by rfl, ?hyq3⟩) hHeld ?_
  case hyq3 => (intro w hSw; (try dsimp only at hSw); go_simp; (try with_reducible rfl))
  try simp only [Act.put, List.setIfInBounds_toArray, List.set_cons_zero, List.set_cons_succ]
  refine wpAnyH_take (i := 4) (oi := { dst := some 15, op := Op.load 30 (Operand.tmp 14), type := 30, pos := "law.go:76", after := #[{ on := 3, ground := Ground.data }], guard := none }) (v := ?vq4) rfl (by kernel_rfl) (by kernel_rfl) (by kernel_rfl) (fun _ _ _ h => h) (Or.inl ⟨by rfl, ?hyq4⟩) hHeld ?_
  case hyq4 => (intro w hSw; (try dsimp only at hSw); go_simp; (try with_reducible rfl))
  try simp only [Act.put, List.setIfInBounds_toArray, List.set_cons_zero, List.set_cons_succ]
  refine wpAnyH_ready (rs := [5, 9]) (by kernel_rfl) (by simp) ?_
  refine AllReadyH.cons (o := { dst := some 16, op := Op.call { callee := Callee.value (Operand.func 10), args := #[Operand.tmp 11, Operand.tmp 15], argTypes := #[33, 30] }, type := 37, pos := "law.go:76", after := #[{ on := 0, ground := Ground.data }, { on := 4, ground := Ground.data }], guard := none }) rfl (fun K hK => ?_) ?_
  · go_simp
    refine (HT.out _ HF0.out).mono ?_
    rintro e V ⟨rfl, hF, hs⟩
    have HQ1 := Lib.hid (HQ0.out.act hF HU.out hs)
    clear hF hs HT HQ0 hHeld p0 p1 p2 p3 p4 p5 p6 p7 p8 p9 p10 p11 p12 p13 p14
    obtain ⟨p0, p1, p2, p3, p4, p5, p6, p7, p8, p9, p10, p11, p12, p13, p14⟩ := HQ1.out.s15 hi HL.out HTk.out
    refine hK.out _ _ ?_ (fun hHeld => ?_)
    · exact ⟨p0, p1, p2, p3, p4, p5, p6, p7, p8, p9, p10, p11, p12, p13, p14⟩
    clear hK K
    try simp only [Act.put, List.setIfInBounds_toArray, List.set_cons_zero, List.set_cons_succ]
    refine wpAnyH_take (i := 6) (oi := { dst := some 10, op := Op.move (Operand.tmp 16), type := 37, pos := "law.go:76", after := #[{ on := 5, ground := Ground.data }], guard := none }) (v := ?vq16) rfl (by kernel_rfl) (by kernel_rfl) (by kernel_rfl) (fun _ _ _ h => h) (Or.inl ⟨by rfl, ?hyq16⟩) hHeld ?_
    case hyq16 => (intro w hSw; (try dsimp only at hSw); go_simp; (try with_reducible rfl))
    try simp only [Act.put, List.setIfInBounds_toArray, List.set_cons_zero, List.set_cons_succ]
    refine wpAnyH_take (i := 7) (oi := { dst := some 17, op := Op.extract (Operand.tmp 10) 0, type := 30, pos := "law.go:76", after := #[{ on := 6, ground := Ground.data }], guard := none }) (v := ?vq17) rfl (by kernel_rfl) (by kernel_rfl) (by kernel_rfl) (fun _ _ _ h => h) (Or.inl ⟨by rfl, ?hyq17⟩) hHeld ?_
    case hyq17 => (intro w hSw; (try dsimp only at hSw); go_simp; (try with_reducible rfl))
    try simp only [Act.put, List.setIfInBounds_toArray, List.set_cons_zero, List.set_cons_succ]
    refine wpAnyH_take (i := 8) (oi := { dst := some 18, op := Op.extract (Operand.tmp 10) 1, type := 4, pos := "law.go:76", after := #[{ on := 6, ground := Ground.data }, { on := 10, ground := Ground.gcOnly Departure.lateStores }], guard := none }) (v := ?vq18) rfl (by kernel_rfl) (by kernel_rfl) (by kernel_rfl) (fun _ _ _ h => h) (Or.inl ⟨by rfl, ?hyq18⟩) hHeld ?_
    case hyq18 => (intro w hSw; (try dsimp only at hSw); go_simp; (try with_reducible rfl))
    try simp only [Act.put, List.setIfInBounds_toArray, List.set_cons_zero, List.set_cons_succ]
    refine wpAnyH_ready (rs := [9]) (by kernel_rfl) (by simp) ?_
    refine AllReadyH.cons (o := { dst := some 8, op := Op.alloc 30, type := 0, pos := "law.go:76", after := #[], guard := none }) rfl (fun K hK => ?_) AllReadyH.nil
    go_simp
    have HQ2 := Lib.hid (HQ1.out.below (below_new V (.cells #[.int .i64 0, .int .i64 0, .int .i64 0, .int .i64 0, .int .i64 0, .int .u64 0, .int .u64 0, .int .u64 0, .int .u64 0, .int .u64 0, .int .u64 0, .int .i64 0, .int .i64 0] 30)))
    have HX1 := Lib.hid (Mut13.new V 0 0 0 0 0 0 0 0 0 0 0 0 0)
    have hX7 : B + 7 ≤ V.heap.size := by have := HQ1.out.lt; omega
    have hXv : ∀ j, v.ownBlock = some j → j < V.heap.size := fun j hj => (HQ1.out.row.own hj).2
    clear hHeld p0 p1 p2 p3 p4 p5 p6 p7 p8 p9 p10 p11 p12 p13 p14
    obtain ⟨b0, b1, b2, b3, b4, b5, b6, b7, b8, b9, b10, b11, b12, bf⟩ := HX1.out.cells
    obtain ⟨p0, p1, p2, p3, p4, p5, p6, p7, p8, p9, p10, p11, p12, p13, p14⟩ := HQ2.out.s15 hi HL.out HTk.out
    refine hK.out _ _ ?_ (fun hHeld => ?_)
    · exact ⟨p0, p1, p2, p3, p4, p5, p6, p7, p8, p9, p10, p11, p12, p13, p14⟩
    clear hK K
    try simp only [Act.put, List.setIfInBounds_toArray, List.set_cons_zero, List.set_cons_succ]
    refine wpAnyH_ready (rs := [10]) (by kernel_rfl) (by simp) ?_
    refine AllReadyH.cons (o := { dst := none, op := Op.store 30 (Operand.tmp 8) (Operand.tmp 17), type := 0, pos := "law.go:76", after := #[{ on := 9, ground := Ground.data }, { on := 7, ground := Ground.data }, { on := 5, ground := Ground.chain }, { on := 0, ground := Ground.phase }, { on := 1, ground := Ground.phase }, { on := 2, ground := Ground.phase }, { on := 3, ground := Ground.phase }, { on := 4, ground := Ground.phase }, { on := 5, ground := Ground.phase }, { on := 6, ground := Ground.phase }, { on := 7, ground := Ground.phase }, { on := 8, ground := Ground.textOnly Departure.lateStores }, { on := 9, ground := Ground.phase }], guard := none }) rfl (fun K hK => ?_) AllReadyH.nil
    go_simp
    have HQ3 := Lib.hid (HQ1.out.below (below_new V (.cells #[.int .i64 34, .int .i64 0, .int .i64 0, .int .i64 0, .int .i64 0, .int .u64 0, .int .u64 0, .int .u64 0, .int .u64 0, .int .u64 t, .int .u64 0, .int .i64 0, .int .i64 0] 30)))
    have HX3 := Lib.hid (Mut13.new V 34 0 0 0 0 0 0 0 0 0 0 t 0)
    clear HQ1 HQ2 HX1 hHeld p0 p1 p2 p3 p4 p5 p6 p7 p8 p9 p10 p11 p12 p13 p14 b0 b1 b2 b3 b4 b5 b6 b7 b8 b9 b10 b11 b12 bf
    generalize V.alloc (.cells #[.int .i64 34, .int .i64 0, .int .i64 0, .int .i64 0, .int .i64 0, .int .u64 0, .int .u64 0, .int .u64 0, .int .u64 0, .int .u64 t, .int .u64 0, .int .i64 0, .int .i64 0] 30) = V3 at *
    generalize V.heap.size = X at *
    obtain ⟨p0, p1, p2, p3, p4, p5, p6, p7, p8, p9, p10, p11, p12, p13, p14⟩ := HQ3.out.s15 hi HL.out HTk.out
    refine hK.out _ _ ?_ (fun hHeld => ?_)
    · exact ⟨p0, p1, p2, p3, p4, p5, p6, p7, p8, p9, p10, p11, p12, p13, p14⟩
    clear hK K
    try simp only [Act.put, List.setIfInBounds_toArray, List.set_cons_zero, List.set_cons_succ]
    refine wpAnyH_take (i := 11) (oi := { dst := some 9, op := Op.assign (Operand.tmp 18), type := 4, pos := "law.go:76", after := #[{ on := 8, ground := Ground.data }, { on := 10, ground := Ground.chain }, { on := 0, ground := Ground.phase }, { on := 1, ground := Ground.phase }, { on := 2, ground := Ground.phase }, { on := 3, ground := Ground.phase }, { on := 4, ground := Ground.phase }, { on := 5, ground := Ground.phase }, { on := 6, ground := Ground.phase }, { on := 7, ground := Ground.phase }, { on := 8, ground := Ground.phase }, { on := 9, ground := Ground.phase }, { on := 10, ground := Ground.phase }], guard := none }) (v := ?vq111) rfl (by kernel_rfl) (by kernel_rfl) (by kernel_rfl) (fun _ _ _ h => h) (Or.inl ⟨by rfl, ?hyq111⟩) hHeld ?_
    case hyq111 => (intro w hSw; (try dsimp only at hSw); go_simp; (try with_reducible rfl))
    try simp only [Act.put, List.setIfInBounds_toArray, List.set_cons_zero, List.set_cons_succ]
    refine wpAnyH_done (by kernel_rfl) ?_ _
    clear hHeld
    have hrow : Slid V3 (B + 7) v q.order := HQ3.out.row
    rw [ho] at hrow
    obtain ⟨g, o, cap, rfl, hcap, hgl, hc0, hrest⟩ := Slid.head hrow
    clear hrow
    obtain ⟨m, hm⟩ : ∃ m, m = l.length + 1 := ⟨_, rfl⟩
    rw [← hm] at HQ3 hXv hcap
    rw [show l.length = m - 1 by omega] at hrest
    have hm0 : ((m : Int) == 0) = false := by simp; omega
    have hm1 : (0 : Int) < (m : Int) := by omega
    have hm2 : (1 : Int) ≤ (m : Int) := by omega
    obtain ⟨_, _, s3, s5, s6'⟩ := HQ3.out.cells
    have s6 : V3.cell? ⟨B + 6, 0, none⟩ = some (.int .i64 (-1)) := by rw [s6']; show some (Value.int .i64 (insV q.ins)) = _; rw [hin]; rfl
    clear s6'
    obtain ⟨b0, b1, b2, b3, b4, b5, b6, b7, b8, b9, b10, b11, b12, bf⟩ := HX3.out.cells
    have HH := Lib.hid (Holds_34 t)
    have HRest := Lib.hid hrest
    have HHg := Lib.hid hm
    clear hrest hcap hm
    go_wp2_with fail
    refine (HH.out _).mono ?_
    rintro e V4 ⟨rfl, hW⟩
    have HQ4 := Lib.hid (HQ3.out.below hW)
    have HX4 : Hid (MuAt V4 X (tM 34 t)) := Lib.hid (HX3.out.below hW)
    have HRest4 := Lib.hid (HRest.out.below hW)
    clear hW HQ3 HX3 HRest HH s3 s5 s6 hc0 hgl p0 p1 p2 p3 p4 p5 p6 p7 p8 p9 p10 p11 p12 p13 p14 b0 b1 b2 b3 b4 b5 b6 b7 b8 b9 b10 b11 b12 bf
    obtain ⟨_, _, s3, s5, s6⟩ := HQ4.out.cells
    obtain ⟨z3, z6⟩ := HQ4.out.froz
    have g0 : V4.cell? ⟨B + 4, i, none⟩ = some (.int .i64 (q.got i)) := HQ4.out.got.cell hi
    have gf : V4.frozen? ⟨B + 4, i, none⟩ = false := HQ4.out.got.frozen i
    generalize hgi : q.got i = gi at hg0 g0
    have HGi := Lib.hid hgi
    have hwr : IntKind.i64.wrap (gi + 1) = gi + 1 := IntWalk.i64_in _ (by omega)
    clear hgi
    obtain ⟨b0, b1, b2, b3, b4, b5, b6, b7, b8, b9, b10, b11, b12, bf⟩ := HX4.out.cells
    by_cases hcp : cap = 1
    · subst hcp
      have hr : Slid V4 (B + 7) (.slice (some ⟨g, o, none⟩) (m - 1) 0) l := by have h := HRest4.out; rw [if_pos rfl] at h; exact h
      have hXv' : ∀ j, (Value.slice (some ⟨g, o, none⟩) m 1).ownBlock = some j → j < X := hXv
      have HQ8 : Hid (QAt w ((((V4.setCell ⟨B + 3, 0, none⟩ (.slice (some ⟨g, o, none⟩) (m - 1) 0)).setCell ⟨B + 6, 0, none⟩ (.int .i64 (i : Int))).setCell ⟨B + 4, i, none⟩ (.int .i64 (gi + 1))).setCell ⟨X, 0, none⟩ (.int .i64 37)) B H A G k (.slice (some ⟨g, o, none⟩) (m - 1) 0) _) := Lib.hid ((((HQ4.out.setOrd hr).setIns (some i)).setGot i (gi + 1)).apart ((Sav.of (S := fun j => j = X) (Below.refl _ _)).set (p := ⟨X, 0, none⟩) (.inl rfl) _) (fun j e => ⟨by rw [e]; exact hX7, fun e2 => by have := hXv' g rfl; have e2 : some g = some j := e2; cases e2; omega⟩))
      have HX8 : Hid (Mut13 ((((V4.setCell ⟨B + 3, 0, none⟩ (.slice (some ⟨g, o, none⟩) (m - 1) 0)).setCell ⟨B + 6, 0, none⟩ (.int .i64 (i : Int))).setCell ⟨B + 4, i, none⟩ (.int .i64 (gi + 1))).setCell ⟨X, 0, none⟩ (.int .i64 37)) X 37 0 0 0 0 0 0 0 0 0 0 t 0) := Lib.hid ((((HX4.out.setOther (q := ⟨B + 3, 0, none⟩) (by show B + 3 ≠ X; omega) _).setOther (q := ⟨B + 6, 0, none⟩) (by show B + 6 ≠ X; omega) _).setOther (q := ⟨B + 4, i, none⟩) (by show B + 4 ≠ X; omega) _).setL 37)
      clear hr hXv' hXv
      obtain ⟨d0, d1, d2, d3, d4, d5, d6, d7, d8, d9, d10, d11, d12, df⟩ := HX8.out.cells
      obtain ⟨r0, r1, r2, r3, r4, r5, r6, r7, r8, r9, r10, r11, r12, r13, r14⟩ := HQ8.out.s15 hi (l := 33) (t := t) HL.out HTk.out
      have hfz := HQ8.out.all.frozen
      go_wp2_with fail
      go_ret
      exact ⟨rfl, _, by rw [step_won HL.out HTk.out ht HE3.out HE4.out ho (show q.got i + 1 = gi + 1 by rw [HGi.out])]; exact HQ8.out.setAll i 37 t⟩
    · have hr : Slid V4 (B + 7) (.slice (some ⟨g, o + 1, none⟩) (m - 1) (cap - 1)) l := by have h := HRest4.out; rw [if_neg hcp] at h; exact h
      have hXv' : ∀ j, (Value.slice (some ⟨g, o, none⟩) m cap).ownBlock = some j → j < X := hXv
      have HQ8 : Hid (QAt w ((((V4.setCell ⟨B + 3, 0, none⟩ (.slice (some ⟨g, o + 1, none⟩) (m - 1) (cap - 1))).setCell ⟨B + 6, 0, none⟩ (.int .i64 (i : Int))).setCell ⟨B + 4, i, none⟩ (.int .i64 (gi + 1))).setCell ⟨X, 0, none⟩ (.int .i64 37)) B H A G k (.slice (some ⟨g, o + 1, none⟩) (m - 1) (cap - 1)) _) := Lib.hid ((((HQ4.out.setOrd hr).setIns (some i)).setGot i (gi + 1)).apart ((Sav.of (S := fun j => j = X) (Below.refl _ _)).set (p := ⟨X, 0, none⟩) (.inl rfl) _) (fun j e => ⟨by rw [e]; exact hX7, fun e2 => by have := hXv' g rfl; have e2 : some g = some j := e2; cases e2; omega⟩))
      have HX8 : Hid (Mut13 ((((V4.setCell ⟨B + 3, 0, none⟩ (.slice (some ⟨g, o + 1, none⟩) (m - 1) (cap - 1))).setCell ⟨B + 6, 0, none⟩ (.int .i64 (i : Int))).setCell ⟨B + 4, i, none⟩ (.int .i64 (gi + 1))).setCell ⟨X, 0, none⟩ (.int .i64 37)) X 37 0 0 0 0 0 0 0 0 0 0 t 0) := Lib.hid ((((HX4.out.setOther (q := ⟨B + 3, 0, none⟩) (by show B + 3 ≠ X; omega) _).setOther (q := ⟨B + 6, 0, none⟩) (by show B + 6 ≠ X; omega) _).setOther (q := ⟨B + 4, i, none⟩) (by show B + 4 ≠ X; omega) _).setL 37)
      clear hr hXv' hXv
      obtain ⟨d0, d1, d2, d3, d4, d5, d6, d7, d8, d9, d10, d11, d12, df⟩ := HX8.out.cells
      obtain ⟨r0, r1, r2, r3, r4, r5, r6, r7, r8, r9, r10, r11, r12, r13, r14⟩ := HQ8.out.s15 hi (l := 33) (t := t) HL.out HTk.out
      have hfz := HQ8.out.all.frozen
      go_wp2_with fail
      go_ret
      exact ⟨rfl, _, by rw [step_won HL.out HTk.out ht HE3.out HE4.out ho (show q.got i + 1 = gi + 1 by rw [HGi.out])]; exact HQ8.out.setAll i 37 t⟩
  refine AllReadyH.cons (o := { dst := some 8, op := Op.alloc 30, type := 0, pos := "law.go:76", after := #[], guard := none }) rfl (fun K hK => ?_) AllReadyH.nil
  go_simp
  have HQa := Lib.hid (HQ0.out.below (below_new _ (.cells #[.int .i64 0, .int .i64 0, .int .i64 0, .int .i64 0, .int .i64 0, .int .u64 0, .int .u64 0, .int .u64 0, .int .u64 0, .int .u64 0, .int .u64 0, .int .i64 0, .int .i64 0] 30)))
  have HX : Hid (Mut13 _ W.heap.size 0 0 0 0 0 0 0 0 0 0 0 0 0) := Lib.hid (Mut13.new W.drew 0 0 0 0 0 0 0 0 0 0 0 0 0)
  have hX7 : B + 7 ≤ W.heap.size := by have := HQ0.out.lt; have e : W.drew.heap.size = W.heap.size := rfl; omega
  have hXv : ∀ j, v.ownBlock = some j → j < W.heap.size := fun j hj => (HQ0.out.row.own hj).2
  clear hHeld p0 p1 p2 p3 p4 p5 p6 p7 p8 p9 p10 p11 p12 p13 p14
  obtain ⟨b0, b1, b2, b3, b4, b5, b6, b7, b8, b9, b10, b11, b12, bf⟩ := HX.out.cells
  obtain ⟨p0, p1, p2, p3, p4, p5, p6, p7, p8, p9, p10, p11, p12, p13, p14⟩ := HQa.out.s15 hi HL.out HTk.out
  refine hK.out _ _ ?_ (fun hHeld => ?_)
  · exact ⟨p0, p1, p2, p3, p4, p5, p6, p7, p8, p9, p10, p11, p12, p13, p14⟩
  clear hK K
  try simp only [Act.put, List.setIfInBounds_toArray, List.set_cons_zero, List.set_cons_succ]
  refine wpAnyH_ready (rs := [5]) (by kernel_rfl) (by simp) ?_
  refine AllReadyH.cons (o := { dst := some 16, op := Op.call { callee := Callee.value (Operand.func 10), args := #[Operand.tmp 11, Operand.tmp 15], argTypes := #[33, 30] }, type := 37, pos := "law.go:76", after := #[{ on := 0, ground := Ground.data }, { on := 4, ground := Ground.data }], guard := none }) rfl (fun K hK => ?_) AllReadyH.nil
  go_simp
  refine (HT.out _ (HF0.out.below (below_new _ _))).mono ?_
  rintro e V ⟨rfl, hF, hs⟩
  have HQ1 := Lib.hid (HQa.out.act hF HU.out hs)
  have hlH := HQa.out.lo
  have hlB := HQ0.out.lt
  have HX1 : Hid (Mut13 V W.heap.size 0 0 0 0 0 0 0 0 0 0 0 0 0) := Lib.hid (HX.out.savH hs (by show W.heap.size ≠ H; have e : W.drew.heap.size = W.heap.size := rfl; omega) (by show W.heap.size ≠ G; have e : W.drew.heap.size = W.heap.size := rfl; omega))
  clear hF hs HT HQa HX HQ0 hlH hlB hHeld p0 p1 p2 p3 p4 p5 p6 p7 p8 p9 p10 p11 p12 p13 p14 b0 b1 b2 b3 b4 b5 b6 b7 b8 b9 b10 b11 b12 bf
  obtain ⟨b0, b1, b2, b3, b4, b5, b6, b7, b8, b9, b10, b11, b12, bf⟩ := HX1.out.cells
  obtain ⟨p0, p1, p2, p3, p4, p5, p6, p7, p8, p9, p10, p11, p12, p13, p14⟩ := HQ1.out.s15 hi HL.out HTk.out
  refine hK.out _ _ ?_ (fun hHeld => ?_)
  · exact ⟨p0, p1, p2, p3, p4, p5, p6, p7, p8, p9, p10, p11, p12, p13, p14⟩
  clear hK K
  try simp only [Act.put, List.setIfInBounds_toArray, List.set_cons_zero, List.set_cons_succ]
  refine wpAnyH_take (i := 6) (oi := { dst := some 10, op := Op.move (Operand.tmp 16), type := 37, pos := "law.go:76", after := #[{ on := 5, ground := Ground.data }], guard := none }) (v := ?vq46) rfl (by kernel_rfl) (by kernel_rfl) (by kernel_rfl) (fun _ _ _ h => h) (Or.inl ⟨by rfl, ?hyq46⟩) hHeld ?_
  case hyq46 => (intro w hSw; (try dsimp only at hSw); go_simp; (try with_reducible rfl))
  try simp only [Act.put, List.setIfInBounds_toArray, List.set_cons_zero, List.set_cons_succ]
  refine wpAnyH_take (i := 7) (oi := { dst := some 17, op := Op.extract (Operand.tmp 10) 0, type := 30, pos := "law.go:76", after := #[{ on := 6, ground := Ground.data }], guard := none }) (v := ?vq47) rfl (by kernel_rfl) (by kernel_rfl) (by kernel_rfl) (fun _ _ _ h => h) (Or.inl ⟨by rfl, ?hyq47⟩) hHeld ?_
  case hyq47 => (intro w hSw; (try dsimp only at hSw); go_simp; (try with_reducible rfl))
  try simp only [Act.put, List.setIfInBounds_toArray, List.set_cons_zero, List.set_cons_succ]
  refine wpAnyH_take (i := 8) (oi := { dst := some 18, op := Op.extract (Operand.tmp 10) 1, type := 4, pos := "law.go:76", after := #[{ on := 6, ground := Ground.data }, { on := 10, ground := Ground.gcOnly Departure.lateStores }], guard := none }) (v := ?vq48) rfl (by kernel_rfl) (by kernel_rfl) (by kernel_rfl) (fun _ _ _ h => h) (Or.inl ⟨by rfl, ?hyq48⟩) hHeld ?_
  case hyq48 => (intro w hSw; (try dsimp only at hSw); go_simp; (try with_reducible rfl))
  try simp only [Act.put, List.setIfInBounds_toArray, List.set_cons_zero, List.set_cons_succ]
  refine wpAnyH_ready (rs := [10]) (by kernel_rfl) (by simp) ?_
  refine AllReadyH.cons (o := { dst := none, op := Op.store 30 (Operand.tmp 8) (Operand.tmp 17), type := 0, pos := "law.go:76", after := #[{ on := 9, ground := Ground.data }, { on := 7, ground := Ground.data }, { on := 5, ground := Ground.chain }, { on := 0, ground := Ground.phase }, { on := 1, ground := Ground.phase }, { on := 2, ground := Ground.phase }, { on := 3, ground := Ground.phase }, { on := 4, ground := Ground.phase }, { on := 5, ground := Ground.phase }, { on := 6, ground := Ground.phase }, { on := 7, ground := Ground.phase }, { on := 8, ground := Ground.textOnly Departure.lateStores }, { on := 9, ground := Ground.phase }], guard := none }) rfl (fun K hK => ?_) AllReadyH.nil
  go_simp
  have HX3 : Hid (Mut13 (((((((((((((V.setCell ⟨W.heap.size, 0, none⟩ (.int .i64 34)).setCell ⟨W.heap.size, 1, none⟩ (.int .i64 0)).setCell ⟨W.heap.size, 2, none⟩ (.int .i64 0)).setCell ⟨W.heap.size, 3, none⟩ (.int .i64 0)).setCell ⟨W.heap.size, 4, none⟩ (.int .i64 0)).setCell ⟨W.heap.size, 5, none⟩ (.int .u64 0)).setCell ⟨W.heap.size, 6, none⟩ (.int .u64 0)).setCell ⟨W.heap.size, 7, none⟩ (.int .u64 0)).setCell ⟨W.heap.size, 8, none⟩ (.int .u64 0)).setCell ⟨W.heap.size, 9, none⟩ (.int .u64 t)).setCell ⟨W.heap.size, 10, none⟩ (.int .u64 0)).setCell ⟨W.heap.size, 11, none⟩ (.int .i64 0)).setCell ⟨W.heap.size, 12, none⟩ (.int .i64 0)) W.heap.size 34 0 0 0 0 0 0 0 0 0 0 t 0) := Lib.hid (HX1.out.put 34 0 0 0 0 0 0 0 0 0 0 t 0)
  have HQ3 : Hid (QAt w (((((((((((((V.setCell ⟨W.heap.size, 0, none⟩ (.int .i64 34)).setCell ⟨W.heap.size, 1, none⟩ (.int .i64 0)).setCell ⟨W.heap.size, 2, none⟩ (.int .i64 0)).setCell ⟨W.heap.size, 3, none⟩ (.int .i64 0)).setCell ⟨W.heap.size, 4, none⟩ (.int .i64 0)).setCell ⟨W.heap.size, 5, none⟩ (.int .u64 0)).setCell ⟨W.heap.size, 6, none⟩ (.int .u64 0)).setCell ⟨W.heap.size, 7, none⟩ (.int .u64 0)).setCell ⟨W.heap.size, 8, none⟩ (.int .u64 0)).setCell ⟨W.heap.size, 9, none⟩ (.int .u64 t)).setCell ⟨W.heap.size, 10, none⟩ (.int .u64 0)).setCell ⟨W.heap.size, 11, none⟩ (.int .i64 0)).setCell ⟨W.heap.size, 12, none⟩ (.int .i64 0)) B H A G k v _) := Lib.hid (HQ1.out.apart ((Sav.of (S := fun j => j = W.heap.size) (Below.refl _ _)).put13 (.inl rfl) 34 0 0 0 0 0 0 0 0 0 0 t 0) (fun j e => ⟨by rw [e]; exact hX7, fun e2 => by have := hXv j e2; omega⟩))
  clear HQ1 HX1 hHeld HF0 p0 p1 p2 p3 p4 p5 p6 p7 p8 p9 p10 p11 p12 p13 p14 b0 b1 b2 b3 b4 b5 b6 b7 b8 b9 b10 b11 b12 bf
  generalize (((((((((((((V.setCell ⟨W.heap.size, 0, none⟩ (.int .i64 34)).setCell ⟨W.heap.size, 1, none⟩ (.int .i64 0)).setCell ⟨W.heap.size, 2, none⟩ (.int .i64 0)).setCell ⟨W.heap.size, 3, none⟩ (.int .i64 0)).setCell ⟨W.heap.size, 4, none⟩ (.int .i64 0)).setCell ⟨W.heap.size, 5, none⟩ (.int .u64 0)).setCell ⟨W.heap.size, 6, none⟩ (.int .u64 0)).setCell ⟨W.heap.size, 7, none⟩ (.int .u64 0)).setCell ⟨W.heap.size, 8, none⟩ (.int .u64 0)).setCell ⟨W.heap.size, 9, none⟩ (.int .u64 t)).setCell ⟨W.heap.size, 10, none⟩ (.int .u64 0)).setCell ⟨W.heap.size, 11, none⟩ (.int .i64 0)).setCell ⟨W.heap.size, 12, none⟩ (.int .i64 0)) = V3 at *
  generalize W.heap.size = X at *
  obtain ⟨p0, p1, p2, p3, p4, p5, p6, p7, p8, p9, p10, p11, p12, p13, p14⟩ := HQ3.out.s15 hi HL.out HTk.out
  refine hK.out _ _ ?_ (fun hHeld => ?_)
  · exact ⟨p0, p1, p2, p3, p4, p5, p6, p7, p8, p9, p10, p11, p12, p13, p14⟩
  clear hK K
  try simp only [Act.put, List.setIfInBounds_toArray, List.set_cons_zero, List.set_cons_succ]
  refine wpAnyH_take (i := 11) (oi := { dst := some 9, op := Op.assign (Operand.tmp 18), type := 4, pos := "law.go:76", after := #[{ on := 8, ground := Ground.data }, { on := 10, ground := Ground.chain }, { on := 0, ground := Ground.phase }, { on := 1, ground := Ground.phase }, { on := 2, ground := Ground.phase }, { on := 3, ground := Ground.phase }, { on := 4, ground := Ground.phase }, { on := 5, ground := Ground.phase }, { on := 6, ground := Ground.phase }, { on := 7, ground := Ground.phase }, { on := 8, ground := Ground.phase }, { on := 9, ground := Ground.phase }, { on := 10, ground := Ground.phase }], guard := none }) (v := ?vq411) rfl (by kernel_rfl) (by kernel_rfl) (by kernel_rfl) (fun _ _ _ h => h) (Or.inl ⟨by rfl, ?hyq411⟩) hHeld ?_
  case hyq411 => (intro w hSw; (try dsimp only at hSw); go_simp; (try with_reducible rfl))
  try simp only [Act.put, List.setIfInBounds_toArray, List.set_cons_zero, List.set_cons_succ]
  refine wpAnyH_done (by kernel_rfl) ?_ _
  clear hHeld
  have hrow : Slid V3 (B + 7) v q.order := HQ3.out.row
  rw [ho] at hrow
  obtain ⟨g, o, cap, rfl, hcap, hgl, hc0, hrest⟩ := Slid.head hrow
  clear hrow
  obtain ⟨m, hm⟩ : ∃ m, m = l.length + 1 := ⟨_, rfl⟩
  rw [← hm] at HQ3 hXv hcap
  rw [show l.length = m - 1 by omega] at hrest
  have hm0 : ((m : Int) == 0) = false := by simp; omega
  have hm1 : (0 : Int) < (m : Int) := by omega
  have hm2 : (1 : Int) ≤ (m : Int) := by omega
  obtain ⟨_, _, s3, s5, s6'⟩ := HQ3.out.cells
  have s6 : V3.cell? ⟨B + 6, 0, none⟩ = some (.int .i64 (-1)) := by rw [s6']; show some (Value.int .i64 (insV q.ins)) = _; rw [hin]; rfl
  clear s6'
  obtain ⟨b0, b1, b2, b3, b4, b5, b6, b7, b8, b9, b10, b11, b12, bf⟩ := HX3.out.cells
  have HH := Lib.hid (Holds_34 t)
  have HRest := Lib.hid hrest
  have HHg := Lib.hid hm
  clear hrest hcap hm
  go_wp2_with fail
  refine (HH.out _).mono ?_
  rintro e V4 ⟨rfl, hW⟩
  have HQ4 := Lib.hid (HQ3.out.below hW)
  have HX4 : Hid (MuAt V4 X (tM 34 t)) := Lib.hid (HX3.out.below hW)
  have HRest4 := Lib.hid (HRest.out.below hW)
  clear hW HQ3 HX3 HRest HH s3 s5 s6 hc0 hgl p0 p1 p2 p3 p4 p5 p6 p7 p8 p9 p10 p11 p12 p13 p14 b0 b1 b2 b3 b4 b5 b6 b7 b8 b9 b10 b11 b12 bf
  obtain ⟨_, _, s3, s5, s6⟩ := HQ4.out.cells
  obtain ⟨z3, z6⟩ := HQ4.out.froz
  have g0 : V4.cell? ⟨B + 4, i, none⟩ = some (.int .i64 (q.got i)) := HQ4.out.got.cell hi
  have gf : V4.frozen? ⟨B + 4, i, none⟩ = false := HQ4.out.got.frozen i
  generalize hgi : q.got i = gi at hg0 g0
  have HGi := Lib.hid hgi
  have hwr : IntKind.i64.wrap (gi + 1) = gi + 1 := IntWalk.i64_in _ (by omega)
  clear hgi
  obtain ⟨b0, b1, b2, b3, b4, b5, b6, b7, b8, b9, b10, b11, b12, bf⟩ := HX4.out.cells
  by_cases hcp : cap = 1
  · subst hcp
    have hr : Slid V4 (B + 7) (.slice (some ⟨g, o, none⟩) (m - 1) 0) l := by have h := HRest4.out; rw [if_pos rfl] at h; exact h
    have hXv' : ∀ j, (Value.slice (some ⟨g, o, none⟩) m 1).ownBlock = some j → j < X := hXv
    have HQ8 : Hid (QAt w ((((V4.setCell ⟨B + 3, 0, none⟩ (.slice (some ⟨g, o, none⟩) (m - 1) 0)).setCell ⟨B + 6, 0, none⟩ (.int .i64 (i : Int))).setCell ⟨B + 4, i, none⟩ (.int .i64 (gi + 1))).setCell ⟨X, 0, none⟩ (.int .i64 37)) B H A G k (.slice (some ⟨g, o, none⟩) (m - 1) 0) _) := Lib.hid ((((HQ4.out.setOrd hr).setIns (some i)).setGot i (gi + 1)).apart ((Sav.of (S := fun j => j = X) (Below.refl _ _)).set (p := ⟨X, 0, none⟩) (.inl rfl) _) (fun j e => ⟨by rw [e]; exact hX7, fun e2 => by have := hXv' g rfl; have e2 : some g = some j := e2; cases e2; omega⟩))
    have HX8 : Hid (Mut13 ((((V4.setCell ⟨B + 3, 0, none⟩ (.slice (some ⟨g, o, none⟩) (m - 1) 0)).setCell ⟨B + 6, 0, none⟩ (.int .i64 (i : Int))).setCell ⟨B + 4, i, none⟩ (.int .i64 (gi + 1))).setCell ⟨X, 0, none⟩ (.int .i64 37)) X 37 0 0 0 0 0 0 0 0 0 0 t 0) := Lib.hid ((((HX4.out.setOther (q := ⟨B + 3, 0, none⟩) (by show B + 3 ≠ X; omega) _).setOther (q := ⟨B + 6, 0, none⟩) (by show B + 6 ≠ X; omega) _).setOther (q := ⟨B + 4, i, none⟩) (by show B + 4 ≠ X; omega) _).setL 37)
    clear hr hXv' hXv
    obtain ⟨d0, d1, d2, d3, d4, d5, d6, d7, d8, d9, d10, d11, d12, df⟩ := HX8.out.cells
    obtain ⟨r0, r1, r2, r3, r4, r5, r6, r7, r8, r9, r10, r11, r12, r13, r14⟩ := HQ8.out.s15 hi (l := 33) (t := t) HL.out HTk.out
    have hfz := HQ8.out.all.frozen
    go_wp2_with fail
    go_ret
    exact ⟨rfl, _, by rw [step_won HL.out HTk.out ht HE3.out HE4.out ho (show q.got i + 1 = gi + 1 by rw [HGi.out])]; exact HQ8.out.setAll i 37 t⟩
  · have hr : Slid V4 (B + 7) (.slice (some ⟨g, o + 1, none⟩) (m - 1) (cap - 1)) l := by have h := HRest4.out; rw [if_neg hcp] at h; exact h
    have hXv' : ∀ j, (Value.slice (some ⟨g, o, none⟩) m cap).ownBlock = some j → j < X := hXv
    have HQ8 : Hid (QAt w ((((V4.setCell ⟨B + 3, 0, none⟩ (.slice (some ⟨g, o + 1, none⟩) (m - 1) (cap - 1))).setCell ⟨B + 6, 0, none⟩ (.int .i64 (i : Int))).setCell ⟨B + 4, i, none⟩ (.int .i64 (gi + 1))).setCell ⟨X, 0, none⟩ (.int .i64 37)) B H A G k (.slice (some ⟨g, o + 1, none⟩) (m - 1) (cap - 1)) _) := Lib.hid ((((HQ4.out.setOrd hr).setIns (some i)).setGot i (gi + 1)).apart ((Sav.of (S := fun j => j = X) (Below.refl _ _)).set (p := ⟨X, 0, none⟩) (.inl rfl) _) (fun j e => ⟨by rw [e]; exact hX7, fun e2 => by have := hXv' g rfl; have e2 : some g = some j := e2; cases e2; omega⟩))
    have HX8 : Hid (Mut13 ((((V4.setCell ⟨B + 3, 0, none⟩ (.slice (some ⟨g, o + 1, none⟩) (m - 1) (cap - 1))).setCell ⟨B + 6, 0, none⟩ (.int .i64 (i : Int))).setCell ⟨B + 4, i, none⟩ (.int .i64 (gi + 1))).setCell ⟨X, 0, none⟩ (.int .i64 37)) X 37 0 0 0 0 0 0 0 0 0 0 t 0) := Lib.hid ((((HX4.out.setOther (q := ⟨B + 3, 0, none⟩) (by show B + 3 ≠ X; omega) _).setOther (q := ⟨B + 6, 0, none⟩) (by show B + 6 ≠ X; omega) _).setOther (q := ⟨B + 4, i, none⟩) (by show B + 4 ≠ X; omega) _).setL 37)
    clear hr hXv' hXv
    obtain ⟨d0, d1, d2, d3, d4, d5, d6, d7, d8, d9, d10, d11, d12, df⟩ := HX8.out.cells
    obtain ⟨r0, r1, r2, r3, r4, r5, r6, r7, r8, r9, r10, r11, r12, r13, r14⟩ := HQ8.out.s15 hi (l := 33) (t := t) HL.out HTk.out
    have hfz := HQ8.out.all.frozen
    go_wp2_with fail
    go_ret
    exact ⟨rfl, _, by rw [step_won HL.out HTk.out ht HE3.out HE4.out ho (show q.got i + 1 = gi + 1 by rw [HGi.out])]; exact HQ8.out.setAll i 37 t⟩
end Go.Proofs.YtglmecdbafceoaaDoor
