/- Laid together: ColLay, RootsStepA. -/
import Derived.Test.YthdcapkchjamoaaDoorM7
import Derived.Test.YthdcapkchjamoaaDoorPlaceAt
/- What each layer makes of a line, without memory. -/
namespace Go.Proofs.YthdcapkchjamoaaDoor
open Go Go.RowKit
set_option maxRecDepth 100000
attribute [local go_sem ↓] Go.wp_at_zero Go.wp_at_succ

/-- What the k-th layer makes of a line. -/
def layN (C : Cf) (s : Dy) (x : Co) (k : Nat) : Dy × Co × Int × Bool :=
  if k = 0 then ((rootS C s x).1, (rootS C s x).2.1, 0, (rootS C s x).2.2)
  else if k = 1 then ((passS C s x).1, (passS C s x).2.1, 0, (passS C s x).2.2)
  else if k = 2 then ((shutS C s x).1, (shutS C s x).2.1, (if (shutS C s x).2.2.1 then 1 else 0), (shutS C s x).2.2.2)
  else sweepS C s x
theorem rootS_ok (C : Cf) (s : Dy) (x : Co) : (rootS C s x).2.2 = decide (x.l = 1 ∨ x.l = 2) := by
  unfold rootS; split
  · simp; omega
  split
  · simp; omega
  · symm; rw [decide_eq_false]; omega
theorem passS_ok (C : Cf) (s : Dy) (x : Co) : (passS C s x).2.2 = decide (3 ≤ x.l ∧ x.l ≤ 9) := by
  unfold passS
  repeat' (split; · (symm; rw [decide_eq_true]; omega))
  symm; rw [decide_eq_false]; omega
theorem shutS_ok (C : Cf) (s : Dy) (x : Co) : (shutS C s x).2.2.2 = decide (10 ≤ x.l ∧ x.l ≤ 16) := by
  unfold shutS
  repeat' (split; · (symm; rw [decide_eq_true]; omega))
  symm; rw [decide_eq_false]; omega
theorem sweepS_ok (C : Cf) (s : Dy) (x : Co) : (sweepS C s x).2.2.2 = decide (20 ≤ x.l ∧ x.l ≤ 24) := by
  unfold sweepS
  repeat' (split; · (symm; rw [decide_eq_true]; omega))
  symm; rw [decide_eq_false]; omega
theorem rootS_no {C : Cf} {s : Dy} {x : Co} (h : ¬ (x.l = 1 ∨ x.l = 2)) : rootS C s x = (s, x, false) := by
  unfold rootS; rw [if_neg (by omega), if_neg (by omega)]
theorem passS_no {C : Cf} {s : Dy} {x : Co} (h : ¬ (3 ≤ x.l ∧ x.l ≤ 9)) : passS C s x = (s, x, false) := by
  unfold passS; rw [if_neg (by omega), if_neg (by omega), if_neg (by omega), if_neg (by omega), if_neg (by omega), if_neg (by omega), if_neg (by omega)]
theorem shutS_no {C : Cf} {s : Dy} {x : Co} (h : ¬ (10 ≤ x.l ∧ x.l ≤ 16)) : shutS C s x = (s, x, false, false) := by
  unfold shutS; rw [if_neg (by omega), if_neg (by omega), if_neg (by omega), if_neg (by omega), if_neg (by omega), if_neg (by omega), if_neg (by omega)]
theorem sweepS_no {C : Cf} {s : Dy} {x : Co} (h : ¬ (20 ≤ x.l ∧ x.l ≤ 24)) : sweepS C s x = (s, x, 0, false) := by
  unfold sweepS; rw [if_neg (by omega), if_neg (by omega), if_neg (by omega), if_neg (by omega), if_neg (by omega)]
theorem lay_no {C : Cf} {s : Dy} {x : Co} {k : Nat} (h : (layN C s x k).2.2.2 = false) : layN C s x k = (s, x, 0, false) := by
  unfold layN at h ⊢
  split at h
  · rename_i hk; rw [if_pos hk]; dsimp only at h; rw [rootS_ok] at h; rw [rootS_no (of_decide_eq_false h)]
  rename_i hk; rw [if_neg hk]
  split at h
  · rename_i hk; rw [if_pos hk]; dsimp only at h; rw [passS_ok] at h; rw [passS_no (of_decide_eq_false h)]
  rename_i hk; rw [if_neg hk]
  split at h
  · rename_i hk; rw [if_pos hk]; dsimp only at h; rw [shutS_ok] at h; rw [shutS_no (of_decide_eq_false h)]; rfl
  rename_i hk; rw [if_neg hk]
  rw [sweepS_ok] at h; rw [sweepS_no (of_decide_eq_false h)]
theorem lay_yes {C : Cf} {s : Dy} {x : Co} {k : Nat} (h : (layN C s.clr x k).2.2.2 = true) : layN C s.clr x k = ((colS C s x).1, (colS C s x).2.1, (colS C s x).2.2, true) := by
  unfold layN at h ⊢
  unfold colS
  split at h
  · rename_i hk; rw [if_pos hk]; dsimp only at h; rw [rootS_ok] at h; rw [if_pos (of_decide_eq_true h), rootS_ok, h]
  rename_i hk; rw [if_neg hk]
  split at h
  · rename_i hk; rw [if_pos hk]; dsimp only at h; rw [passS_ok] at h; have q := of_decide_eq_true h; have n1 : ¬ (x.l = 1 ∨ x.l = 2) := (by omega); rw [if_neg n1, if_pos q, passS_ok, h]
  rename_i hk; rw [if_neg hk]
  split at h
  · rename_i hk; rw [if_pos hk]; dsimp only at h; rw [shutS_ok] at h; have q := of_decide_eq_true h; have n1 : ¬ (x.l = 1 ∨ x.l = 2) := (by omega); have n2 : ¬ (3 ≤ x.l ∧ x.l ≤ 9) := (by omega); rw [if_neg n1, if_neg n2, if_pos q, shutS_ok, h]
  rename_i hk; rw [if_neg hk]
  rw [sweepS_ok] at h; have q := of_decide_eq_true h; have n1 : ¬ (x.l = 1 ∨ x.l = 2) := (by omega); have n2 : ¬ (3 ≤ x.l ∧ x.l ≤ 9) := (by omega); have n3 : ¬ (10 ≤ x.l ∧ x.l ≤ 16) := (by omega); rw [if_neg n1, if_neg n2, if_neg n3]
  have e := sweepS_ok C s.clr x
  rw [h] at e
  rw [← e]
theorem lay_none {C : Cf} {s : Dy} {x : Co} (h : ∀ i, i < 4 → (layN C s.clr x i).2.2.2 = false) : colS C s x = (s.clr, x, 0) := by
  have h0 := h 0 (by decide); have h1 := h 1 (by decide); have h2 := h 2 (by decide); have h3 := h 3 (by decide)
  have q0 : ¬ (x.l = 1 ∨ x.l = 2) := of_decide_eq_false ((rootS_ok C s.clr x).symm.trans h0)
  have q1 : ¬ (3 ≤ x.l ∧ x.l ≤ 9) := of_decide_eq_false ((passS_ok C s.clr x).symm.trans h1)
  have q2 : ¬ (10 ≤ x.l ∧ x.l ≤ 16) := of_decide_eq_false ((shutS_ok C s.clr x).symm.trans h2)
  have q3 : ¬ (20 ≤ x.l ∧ x.l ≤ 24) := of_decide_eq_false ((sweepS_ok C s.clr x).symm.trans h3)
  unfold colS
  rw [if_neg q0, if_neg q1, if_neg q2, sweepS_no q3]
end Go.Proofs.YthdcapkchjamoaaDoor
/- A step of package roots: line 1, a cell; other lines; a nil hand. -/
namespace Go.Proofs.YthdcapkchjamoaaDoor
open Go Go.RowKit
set_option maxRecDepth 100000
attribute [local go_sem ↓] Go.wp_at_zero Go.wp_at_succ

set_option maxHeartbeats 3200000 in
theorem roStep_cell {w : World} {H A G : Nat} {C : Cf} {s : Dy} (hH : HAt w H A G C s) (hu : s.U) (hS : SpansAt w) (_hr : Right C.a C.b C.c C.d) (j c m a p : Int) (fd : Bool) (tl cy : Int) (hn : 0 < C.n) (_hj : -1000000000000 ≤ j ∧ j ≤ 1000000000000) (u : Nat) (hu6 : u < 18446744073709551616) (hT : z5 C.n 1 (rootP C.a C.b C.c C.d j) (s.f (rootP C.a C.b C.c C.d j).toNat) = (u : Int)) (hc : isC u) :
    Calls Tryd.prog 35 #[.pointer (some ⟨H, 0, none⟩), (colV 1 j c m a p fd tl cy)] w (HP w H A G C (s.act C 1 (rootP C.a C.b C.c C.d j) 0 0) (.tuple #[(colV 2 j c m a (u : Int) fd tl cy), .bool true])) := by
  have HC0 := Lib.hid (ColF.start hH ⟨1, j, c, m, a, p, fd, tl, cy⟩)
  have HSP : Hid (∀ W s' x', ColF w W H A G C s' x' → SpansAt W) := Lib.hid (fun W s' x' h => spans_sav hn hS hH h.sav)
  have HRt : Hid (∀ W, SpansAt W → Calls Tryd.prog 50 #[(.agg #[.int .i64 C.a, .int .i64 C.b, .int .i64 C.c, .int .i64 C.d]), .int .i64 j] W fun e w' => e = .returned (.int .i64 (rootP C.a C.b C.c C.d j)) ∧ Below W.heap.size W w') := Lib.hid (fun W hW => Root_c C.a C.b C.c C.d j W hW)
  have HD : Hid (∀ W, HAt W H A G C s → Calls Tryd.prog 49 #[.pointer (some ⟨H, 0, none⟩), .int .i64 (rootP C.a C.b C.c C.d j)] W (HP W H A G C (s.act C 1 (rootP C.a C.b C.c C.d j) 0 0) (.int .u64 (z5 C.n 1 (rootP C.a C.b C.c C.d j) (s.f ((rootP C.a C.b C.c C.d j)).toNat))))) := Lib.hid (fun W hW => hLoad_c (w := W) hW hu (rootP C.a C.b C.c C.d j))
  have HI : Hid (∀ W, Calls Tryd.prog 51 #[.int .u64 (u : Int)] W fun e w' => e = .returned (.tuple #[.int .i64 (cellK u), .bool true]) ∧ W = w') := Lib.hid (fun W => by have := isCell_c u hu6 W; rw [decide_eq_true hc] at this; exact this)
  generalize cellK u = k at *
  generalize (s.act C 1 (rootP C.a C.b C.c C.d j) 0 0) = s' at *
  generalize (z5 C.n 1 (rootP C.a C.b C.c C.d j) (s.f ((rootP C.a C.b C.c C.d j)).toNat)) = T at *
  generalize (rootP C.a C.b C.c C.d j) = P at *
  subst hT
  clear hH hu hS hc hu6 hn
  obtain ⟨a0, a1, a2, a3, a4, a5, a6, a7, a8, af⟩ := HC0.out.cells
  dsimp only at a0 a1 a2 a3 a4 a5 a6 a7 a8
  obtain ⟨_, ⟨h1, h2, h3, h4⟩, _⟩ := HC0.out.hand.cells
  go_enter Tryd.func35, Tryd.ntmps35
  go_wp2_with fail
  refine wp_region_held_drew (S := (fun w' => w'.cell? ⟨H, 1, none⟩ = some (.int .i64 C.a) ∧ w'.cell? ⟨H, 2, none⟩ = some (.int .i64 C.b) ∧ w'.cell? ⟨H, 3, none⟩ = some (.int .i64 C.c) ∧ w'.cell? ⟨H, 4, none⟩ = some (.int .i64 C.d) ∧ w'.cell? ⟨w.heap.size, 1, none⟩ = some (.int .i64 j))) (by kernel_rfl) ?_ (fun hHeld => ?_)
  · exact ⟨h1, h2, h3, h4, a1⟩
  refine wpAnyH_take (i := 0) (oi := { dst := some 14, op := Op.move (Operand.tmp 0), type := 26, pos := "roots.go:40", after := #[], guard := none }) (v := ?vq0) rfl (by kernel_rfl) (by kernel_rfl) (by kernel_rfl) (fun _ _ _ h => h) (Or.inl ⟨by rfl, ?hyq0⟩) hHeld ?_
  case hyq0 => (intro w hSw; (try dsimp only at hSw); go_simp; (try with_reducible rfl))
  try simp only [Act.put, List.setIfInBounds_toArray, List.set_cons_zero, List.set_cons_succ]
  refine wpAnyH_take (i := 1) (oi := { dst := some 15, op := Op.move (Operand.tmp 0), type := 26, pos := "roots.go:40", after := #[], guard := none }) (v := ?vq1) rfl (by kernel_rfl) (by kernel_rfl) (by kernel_rfl) (fun _ _ _ h => h) (Or.inl ⟨by rfl, ?hyq1⟩) hHeld ?_
  case hyq1 => (intro w hSw; (try dsimp only at hSw); go_simp; (try with_reducible rfl))
  try simp only [Act.put, List.setIfInBounds_toArray, List.set_cons_zero, List.set_cons_succ]
  refine wpAnyH_take (i := 2) (oi := { dst := some 16, op := Op.nilCheck (Operand.tmp 15), type := 0, pos := "roots.go:40", after := #[{ on := 1, ground := Ground.data }], guard := none }) (v := ?vq2) rfl (by kernel_rfl) (by kernel_rfl) (by kernel_rfl) (fun _ _ _ h => h) (Or.inl ⟨by rfl, ?hyq2⟩) hHeld ?_
  case hyq2 => (intro w hSw; (try dsimp only at hSw); go_simp; (try with_reducible rfl))
  try simp only [Act.put, List.setIfInBounds_toArray, List.set_cons_zero, List.set_cons_succ]
  refine wpAnyH_take (i := 3) (oi := { dst := some 17, op := Op.fieldAddr 51 (Operand.tmp 16) 1, type := 0, pos := "roots.go:40", after := #[{ on := 2, ground := Ground.data }], guard := none }) (v := ?vq3) rfl (by kernel_rfl) (by kernel_rfl) (by kernel_rfl) (fun _ _ _ h => h) (Or.inl ⟨by rfl, ?hyq3⟩) hHeld ?_
  case hyq3 => (intro w hSw; (try dsimp only at hSw); go_simp; (try with_reducible rfl))
  try simp only [Act.put, List.setIfInBounds_toArray, List.set_cons_zero, List.set_cons_succ]
  refine wpAnyH_take (i := 4) (oi := { dst := some 18, op := Op.load 47 (Operand.tmp 17), type := 47, pos := "roots.go:40", after := #[{ on := 3, ground := Ground.data }], guard := none }) (v := ?vq4) rfl (by kernel_rfl) (by kernel_rfl) (by kernel_rfl) (fun _ _ _ h => h) (Or.inl ⟨by rfl, ?hyq4⟩) hHeld ?_
  case hyq4 => (intro w hSw; (try dsimp only at hSw); go_simp; (try with_reducible rfl))
  try simp only [Act.put, List.setIfInBounds_toArray, List.set_cons_zero, List.set_cons_succ]
  refine wpAnyH_take (i := 5) (oi := { dst := some 19, op := Op.fieldAddr 37 (Operand.tmp 3) 1, type := 0, pos := "roots.go:40", after := #[], guard := none }) (v := ?vq5) rfl (by kernel_rfl) (by kernel_rfl) (by kernel_rfl) (fun _ _ _ h => h) (Or.inl ⟨by rfl, ?hyq5⟩) hHeld ?_
  case hyq5 => (intro w hSw; (try dsimp only at hSw); go_simp; (try with_reducible rfl))
  try simp only [Act.put, List.setIfInBounds_toArray, List.set_cons_zero, List.set_cons_succ]
  refine wpAnyH_take (i := 6) (oi := { dst := some 20, op := Op.load 3 (Operand.tmp 19), type := 3, pos := "roots.go:40", after := #[{ on := 5, ground := Ground.data }], guard := none }) (v := ?vq6) rfl (by kernel_rfl) (by kernel_rfl) (by kernel_rfl) (fun _ _ _ h => h) (Or.inl ⟨by rfl, ?hyq6⟩) hHeld ?_
  case hyq6 => (intro w hSw; (try dsimp only at hSw); go_simp; (try with_reducible rfl))
  try simp only [Act.put, List.setIfInBounds_toArray, List.set_cons_zero, List.set_cons_succ]
  refine wpAnyH_ready (rs := [7]) (by kernel_rfl) (by simp) ?_
  refine AllReadyH.cons (o := { dst := some 21, op := Op.call { callee := Callee.value (Operand.func 50), args := #[Operand.tmp 18, Operand.tmp 20], argTypes := #[47, 3] }, type := 3, pos := "roots.go:40", after := #[{ on := 4, ground := Ground.data }, { on := 6, ground := Ground.data }], guard := none }) rfl (fun K hK => ?_) AllReadyH.nil
  go_simp
  have HC1 := Lib.hid HC0.out.drew
  clear HC0
  refine (HRt.out _ (HSP.out _ _ _ HC1.out)).mono ?_
  rintro e V1 ⟨rfl, hb⟩
  have HC2 := Lib.hid (HC1.out.below hb)
  clear HC1
  clear hb
  clear hHeld HRt h1 h2 h3 h4 a0 a1 a2 a3 a4 a5 a6 a7 a8 af
  obtain ⟨a0, a1, a2, a3, a4, a5, a6, a7, a8, af⟩ := HC2.out.cells
  dsimp only at a0 a1 a2 a3 a4 a5 a6 a7 a8
  obtain ⟨_, ⟨h1, h2, h3, h4⟩, _⟩ := HC2.out.hand.cells
  refine hK.out _ _ ?_ (fun hHeld => ?_)
  · exact ⟨h1, h2, h3, h4, a1⟩
  clear hK K
  try simp only [Act.put, List.setIfInBounds_toArray, List.set_cons_zero, List.set_cons_succ]
  refine wpAnyH_ready (rs := [8]) (by kernel_rfl) (by simp) ?_
  refine AllReadyH.cons (o := { dst := some 22, op := Op.call { callee := Callee.value (Operand.func 49), args := #[Operand.tmp 14, Operand.tmp 21], argTypes := #[26, 3] }, type := 35, pos := "roots.go:40", after := #[{ on := 0, ground := Ground.data }, { on := 7, ground := Ground.data }, { on := 7, ground := Ground.chain }], guard := none }) rfl (fun K hK => ?_) AllReadyH.nil
  go_simp
  refine (HD.out _ HC2.out.hand).mono ?_
  rintro e V2 ⟨rfl, hF, hs⟩
  have HC3 := Lib.hid (HC2.out.handed hF hs)
  clear HC2 hF hs
  clear hHeld HD h1 h2 h3 h4 a0 a1 a2 a3 a4 a5 a6 a7 a8 af
  obtain ⟨a0, a1, a2, a3, a4, a5, a6, a7, a8, af⟩ := HC3.out.cells
  dsimp only at a0 a1 a2 a3 a4 a5 a6 a7 a8
  obtain ⟨_, ⟨h1, h2, h3, h4⟩, _⟩ := HC3.out.hand.cells
  refine hK.out _ _ ?_ (fun hHeld => ?_)
  · exact ⟨h1, h2, h3, h4, a1⟩
  clear hK K
  try simp only [Act.put, List.setIfInBounds_toArray, List.set_cons_zero, List.set_cons_succ]
  refine wpAnyH_take (i := 9) (oi := { dst := some 23, op := Op.fieldAddr 37 (Operand.tmp 3) 5, type := 0, pos := "roots.go:40", after := #[{ on := 0, ground := Ground.phase }, { on := 1, ground := Ground.phase }, { on := 2, ground := Ground.phase }, { on := 3, ground := Ground.phase }, { on := 4, ground := Ground.phase }, { on := 5, ground := Ground.phase }, { on := 6, ground := Ground.phase }, { on := 7, ground := Ground.phase }, { on := 8, ground := Ground.phase }], guard := none }) (v := ?vq9) rfl (by kernel_rfl) (by kernel_rfl) (by kernel_rfl) (fun _ _ _ h => h) (Or.inl ⟨by rfl, ?hyq9⟩) hHeld ?_
  case hyq9 => (intro w hSw; (try dsimp only at hSw); go_simp; (try with_reducible rfl))
  try simp only [Act.put, List.setIfInBounds_toArray, List.set_cons_zero, List.set_cons_succ]
  refine wpAnyH_ready (rs := [10]) (by kernel_rfl) (by simp) ?_
  refine AllReadyH.cons (o := { dst := none, op := Op.store 35 (Operand.tmp 23) (Operand.tmp 22), type := 0, pos := "roots.go:40", after := #[{ on := 9, ground := Ground.data }, { on := 8, ground := Ground.data }, { on := 8, ground := Ground.chain }, { on := 0, ground := Ground.phase }, { on := 1, ground := Ground.phase }, { on := 2, ground := Ground.phase }, { on := 3, ground := Ground.phase }, { on := 4, ground := Ground.phase }, { on := 5, ground := Ground.phase }, { on := 6, ground := Ground.phase }, { on := 7, ground := Ground.phase }, { on := 8, ground := Ground.phase }], guard := none }) rfl (fun K hK => ?_) AllReadyH.nil
  go_simp
  have HC4 := Lib.hid (HC3.out.setP (u : Int))
  clear hHeld HC3 h1 h2 h3 h4 a0 a1 a2 a3 a4 a5 a6 a7 a8 af
  obtain ⟨a0, a1, a2, a3, a4, a5, a6, a7, a8, af⟩ := HC4.out.cells
  dsimp only at a0 a1 a2 a3 a4 a5 a6 a7 a8
  obtain ⟨_, ⟨h1, h2, h3, h4⟩, _⟩ := HC4.out.hand.cells
  refine hK.out _ _ ?_ (fun hHeld => ?_)
  · exact ⟨h1, h2, h3, h4, a1⟩
  clear hK K
  try simp only [Act.put, List.setIfInBounds_toArray, List.set_cons_zero, List.set_cons_succ]
  refine wpAnyH_done (by kernel_rfl) ?_ _
  clear hHeld h1 h2 h3 h4 a0 a1 a2 a3 a4 a5 a6 a7 a8 af
  obtain ⟨a0, a1, a2, a3, a4, a5, a6, a7, a8, af⟩ := HC4.out.cells
  dsimp only at a0 a1 a2 a3 a4 a5 a6 a7 a8
  go_wp2_with fail
  refine (HI.out _).mono ?_
  rintro e V9 ⟨rfl, rfl⟩
  clear HI
  clear a0 a1 a2 a3 a4 a5 a6 a7 a8 af
  have HCe := Lib.hid (HC4.out.setL 2)
  obtain ⟨b0, b1, b2, b3, b4, b5, b6, b7, b8, bf⟩ := HC4.out.cells
  dsimp only at b0 b1 b2 b3 b4 b5 b6 b7 b8
  obtain ⟨d0, d1, d2, d3, d4, d5, d6, d7, d8, df⟩ := HCe.out.cells
  dsimp only at d0 d1 d2 d3 d4 d5 d6 d7 d8
  obtain ⟨c0, c1, c2, c3, c4, c5, c6, c7, c8, cf⟩ := HCe.out.cellsY
  obtain ⟨s0, s1, s2, s3, s4, s5, s6, s7, s8, sf⟩ := (HCe.out.last ⟨2, j, c, m, a, (u : Int), fd, tl, cy⟩).cells
  dsimp only at s0 s1 s2 s3 s4 s5 s6 s7 s8
  clear HC4 
  go_wp2_with fail
  refine bodyPost_ret (v := .tuple #[(colV 2 j c m a (u : Int) fd tl cy), .bool true]) (by simp [results, Tryd.f35, go_sem, s0, s1, s2, s3, s4, s5, s6, s7, s8]) rfl ?_
  exact ⟨rfl, HCe.out.fin ⟨2, j, c, m, a, (u : Int), fd, tl, cy⟩⟩
set_option maxHeartbeats 3200000 in
theorem roStep_other {w : World} {H A G : Nat} {C : Cf} {s : Dy} (hH : HAt w H A G C s) (_ : s.U) (_ : SpansAt w) (_ : Right C.a C.b C.c C.d) (l j c m a : Int) (fd : Bool) (tl cy : Int) (_ : 0 < C.n) (h1 : ¬ l = 1) (h2 : ¬ l = 2) (v : Nat) (hv : v < 18446744073709551616) :
    Calls Tryd.prog 35 #[.pointer (some ⟨H, 0, none⟩), (colV l j c m a (v : Int) fd tl cy)] w (HP w H A G C s (.tuple #[(colV l j c m a (v : Int) fd tl cy), .bool false])) := by
  have HF := Lib.hid hH
  have g1 : (l == 1) = false := by simpa using h1
  have g2 : (l == 2) = false := by simpa using h2
  clear h1 h2 hH
  have HI : Hid (∀ W, Calls Tryd.prog 51 #[.int .u64 (v : Int)] W fun e w' => e = .returned (.tuple #[.int .i64 (cellK v), .bool (decide (isC v))]) ∧ W = w') := Lib.hid (fun W => isCell_c v hv W)
  generalize cellK v = k at *
  generalize decide (isC v) = bo at *
  clear hv
  go_enter Tryd.func35, Tryd.ntmps35
  go_wp2_with fail
  refine (HI.out _).mono ?_
  rintro e V1 ⟨rfl, rfl⟩
  clear HI
  go_wp2_with fail
  refine bodyPost_ret (v := .tuple #[(colV l j c m a (v : Int) fd tl cy), .bool false]) (by simp [results, Tryd.f35, go_sem]) rfl ?_
  refine ⟨rfl, HF.out.below (below_on (below_new _ _) _), Sav.of (below_on (below_new _ _) _)⟩
theorem roStep_nil (l j c m a p : Int) (fd : Bool) (tl cy : Int) (w : World) :
    Calls Tryd.prog 35 #[.pointer none, (colV l j c m a p fd tl cy)] w fun e w' => e = .returned (.tuple #[(colV l j c m a p fd tl cy), .bool false]) ∧ Below w.heap.size w w' := by
  go_enter Tryd.func35, Tryd.ntmps35
  go_wp2_with fail
  refine bodyPost_ret (v := .tuple #[(colV l j c m a p fd tl cy), .bool false]) (by simp [results, Tryd.f35, go_sem]) rfl ?_
  exact ⟨rfl, below_on (below_new _ _) _⟩
end Go.Proofs.YthdcapkchjamoaaDoor
