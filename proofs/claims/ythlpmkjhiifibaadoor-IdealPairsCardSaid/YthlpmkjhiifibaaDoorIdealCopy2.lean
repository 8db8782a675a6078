/- Package ideal's Copy: a store of its own that is as this one. -/
import Derived.Test.YthlpmkjhiifibaaDoorIdealNew
namespace Go.Proofs.YthlpmkjhiifibaaDoor
open Go Go.RowKit
set_option maxRecDepth 100000
attribute [local go_sem ↓] Go.wp_at_zero Go.wp_at_succ

/-- What Copy answers. -/
def CopyPost (w : World) (b c d : Nat) (s : St) (e : Ending) (w' : World) : Prop :=
  ∃ (X R L : Nat) (v : Value), e = .returned (.pointer (some ⟨X, 0, none⟩)) ∧ StoreAt w' X R L v b c d s ∧ (∀ k, foot X R L v k → w.heap.size ≤ k) ∧ Below w.heap.size w w'
theorem Copy_nil (w : World) : Calls Tryd.prog 20 #[.pointer none] w fun e w' => e = .returned (.pointer none) ∧ w = w' := by
  go_enter Tryd.func20, Tryd.ntmps20
  go_wp2
  go_ret
  exact ⟨rfl, rfl⟩
theorem copiedW_any {w : World} {B n cap : Nat} {t : TypeId} {f : Nat → Nat} (hn : n ≤ 1000000) (h : RowN w B t n f) :
    Calls Tryd.prog 40 #[.slice (some ⟨B, 0, none⟩) n cap] w fun e w' => ∃ r, e = .returned (.slice (some ⟨r, 0, none⟩) n n) ∧ w.heap.size ≤ r ∧ RowN w' r 41 n f ∧ Below w.heap.size w w' :=
  (copiedW_c hn h).mono fun _ _ ⟨h1, h2, h3⟩ => ⟨_, h1, Nat.le_refl _, h2, h3⟩
theorem copiedC_any {w : World} {v : Value} {n : Nat} {f : Nat → Nat} (hn : n ≤ 1000000) (h : MadeAt w v n f) :
    Calls Tryd.prog 41 #[v] w fun e w' => ∃ r, e = .returned (.slice (some ⟨r, 0, none⟩) n n) ∧ w.heap.size ≤ r ∧ MadeAt w' (.slice (some ⟨r, 0, none⟩) n n) n f ∧ Below w.heap.size w w' :=
  (copiedC_c hn h).mono fun _ _ ⟨h1, h2, h3⟩ => ⟨_, h1, Nat.le_refl _, h2, h3⟩
set_option maxHeartbeats 1600000 in
theorem Copy_c {w : World} {X R L : Nat} {v : Value} {b c d : Nat} {s : St} (h : StoreAt w X R L v b c d s) : Calls Tryd.prog 20 #[.pointer (some ⟨X, 0, none⟩)] w (CopyPost w b c d s) := by
  have hp := h.prod
  have hd : d ≤ 64 := h.n1.2.2.2.2
  have HH := Lib.hid h.drew
  have HB : Hid (Below w.heap.size w w.drew) := Lib.hid (Below.refl _ _).drew
  have HR : Hid (∀ W, StoreAt W X R L v b c d s → _) := Lib.hid (fun W hW => copiedW_any (w := W) (n := b * c) (cap := b * c) (by omega) hW.regs)
  have HL : Hid (∀ W, StoreAt W X R L v b c d s → _) := Lib.hid (fun W hW => copiedW_any (w := W) (n := d) (cap := d) (by omega) hW.globs)
  have HM : Hid (∀ W, StoreAt W X R L v b c d s → _) := Lib.hid (fun W hW => copiedC_any (w := W) (v := v) hW.few hW.made)
  obtain ⟨c0, c1, c2, c3, c4, c5, c6, _⟩ := h.drew.cells
  clear h hp hd
  generalize hnn : b * c = nn at *
  go_enter Tryd.func20, Tryd.ntmps20
  go_wp2_with fail
  refine wp_region_held_drew (S := (fun w' => w'.cell? ⟨X, 0, none⟩ = some (.int .i64 2) ∧ w'.cell? ⟨X, 1, none⟩ = some (.int .i64 b) ∧ w'.cell? ⟨X, 2, none⟩ = some (.int .i64 c) ∧ w'.cell? ⟨X, 3, none⟩ = some (.int .i64 d) ∧ w'.cell? ⟨X, 4, none⟩ = some (.slice (some ⟨R, 0, none⟩) nn nn) ∧ w'.cell? ⟨X, 5, none⟩ = some (.slice (some ⟨L, 0, none⟩) d d) ∧ w'.cell? ⟨X, 6, none⟩ = some v)) (by kernel_rfl) ?_ (fun hHeld => ?_)
  · exact ⟨c0, c1, c2, c3, c4, c5, c6⟩
  refine wpAnyH_take (i := 0) (oi := { dst := some 5, op := Op.move (Operand.tmp 0), type := 27, pos := "ideal.go:104", after := #[], guard := none }) (v := ?vy0) rfl (by kernel_rfl) (by kernel_rfl) (by kernel_rfl) (fun _ _ _ h => h) (Or.inl ⟨by rfl, ?hyy0⟩) hHeld ?_
  case hyy0 => (intro w hSw; (try dsimp only at hSw); go_simp; (try with_reducible rfl))
  try simp only [Act.put, List.setIfInBounds_toArray, List.set_cons_zero, List.set_cons_succ]
  refine wpAnyH_take (i := 1) (oi := { dst := some 6, op := Op.nilCheck (Operand.tmp 5), type := 0, pos := "ideal.go:104", after := #[{ on := 0, ground := Ground.data }], guard := none }) (v := ?vy1) rfl (by kernel_rfl) (by kernel_rfl) (by kernel_rfl) (fun _ _ _ h => h) (Or.inl ⟨by rfl, ?hyy1⟩) hHeld ?_
  case hyy1 => (intro w hSw; (try dsimp only at hSw); go_simp; (try with_reducible rfl))
  try simp only [Act.put, List.setIfInBounds_toArray, List.set_cons_zero, List.set_cons_succ]
  refine wpAnyH_take (i := 2) (oi := { dst := some 7, op := Op.fieldAddr 52 (Operand.tmp 6) 0, type := 0, pos := "ideal.go:104", after := #[{ on := 1, ground := Ground.data }], guard := none }) (v := ?vy2) rfl (by kernel_rfl) (by kernel_rfl) (by kernel_rfl) (fun _ _ _ h => h) (Or.inl ⟨by rfl, ?hyy2⟩) hHeld ?_
  case hyy2 => (intro w hSw; (try dsimp only at hSw); go_simp; (try with_reducible rfl))
  try simp only [Act.put, List.setIfInBounds_toArray, List.set_cons_zero, List.set_cons_succ]
  refine wpAnyH_take (i := 3) (oi := { dst := some 8, op := Op.load 25 (Operand.tmp 7), type := 25, pos := "ideal.go:104", after := #[{ on := 2, ground := Ground.data }], guard := none }) (v := ?vy3) rfl (by kernel_rfl) (by kernel_rfl) (by kernel_rfl) (fun _ _ _ h => h) (Or.inl ⟨by rfl, ?hyy3⟩) hHeld ?_
  case hyy3 => (intro w hSw; (try dsimp only at hSw); go_simp; (try with_reducible rfl))
  try simp only [Act.put, List.setIfInBounds_toArray, List.set_cons_zero, List.set_cons_succ]
  refine wpAnyH_take (i := 4) (oi := { dst := some 9, op := Op.move (Operand.tmp 0), type := 27, pos := "ideal.go:104", after := #[], guard := none }) (v := ?vy4) rfl (by kernel_rfl) (by kernel_rfl) (by kernel_rfl) (fun _ _ _ h => h) (Or.inl ⟨by rfl, ?hyy4⟩) hHeld ?_
  case hyy4 => (intro w hSw; (try dsimp only at hSw); go_simp; (try with_reducible rfl))
  try simp only [Act.put, List.setIfInBounds_toArray, List.set_cons_zero, List.set_cons_succ]
  refine wpAnyH_take (i := 5) (oi := { dst := some 10, op := Op.nilCheck (Operand.tmp 9), type := 0, pos := "ideal.go:104", after := #[{ on := 4, ground := Ground.data }], guard := none }) (v := ?vy5) rfl (by kernel_rfl) (by kernel_rfl) (by kernel_rfl) (fun _ _ _ h => h) (Or.inl ⟨by rfl, ?hyy5⟩) hHeld ?_
  case hyy5 => (intro w hSw; (try dsimp only at hSw); go_simp; (try with_reducible rfl))
  try simp only [Act.put, List.setIfInBounds_toArray, List.set_cons_zero, List.set_cons_succ]
  refine wpAnyH_take (i := 6) (oi := { dst := some 11, op := Op.fieldAddr 52 (Operand.tmp 10) 1, type := 0, pos := "ideal.go:104", after := #[{ on := 5, ground := Ground.data }], guard := none }) (v := ?vy6) rfl (by kernel_rfl) (by kernel_rfl) (by kernel_rfl) (fun _ _ _ h => h) (Or.inl ⟨by rfl, ?hyy6⟩) hHeld ?_
  case hyy6 => (intro w hSw; (try dsimp only at hSw); go_simp; (try with_reducible rfl))
  try simp only [Act.put, List.setIfInBounds_toArray, List.set_cons_zero, List.set_cons_succ]
  refine wpAnyH_take (i := 7) (oi := { dst := some 12, op := Op.load 49 (Operand.tmp 11), type := 49, pos := "ideal.go:104", after := #[{ on := 6, ground := Ground.data }], guard := none }) (v := ?vy7) rfl (by kernel_rfl) (by kernel_rfl) (by kernel_rfl) (fun _ _ _ h => h) (Or.inl ⟨by rfl, ?hyy7⟩) hHeld ?_
  case hyy7 => (intro w hSw; (try dsimp only at hSw); go_simp; (try with_reducible rfl))
  try simp only [Act.put, List.setIfInBounds_toArray, List.set_cons_zero, List.set_cons_succ]
  refine wpAnyH_take (i := 9) (oi := { dst := some 14, op := Op.move (Operand.tmp 0), type := 27, pos := "ideal.go:104", after := #[], guard := none }) (v := ?vy9) rfl (by kernel_rfl) (by kernel_rfl) (by kernel_rfl) (fun _ _ _ h => h) (Or.inl ⟨by rfl, ?hyy9⟩) hHeld ?_
  case hyy9 => (intro w hSw; (try dsimp only at hSw); go_simp; (try with_reducible rfl))
  try simp only [Act.put, List.setIfInBounds_toArray, List.set_cons_zero, List.set_cons_succ]
  refine wpAnyH_take (i := 10) (oi := { dst := some 15, op := Op.nilCheck (Operand.tmp 14), type := 0, pos := "ideal.go:104", after := #[{ on := 9, ground := Ground.data }], guard := none }) (v := ?vy10) rfl (by kernel_rfl) (by kernel_rfl) (by kernel_rfl) (fun _ _ _ h => h) (Or.inl ⟨by rfl, ?hyy10⟩) hHeld ?_
  case hyy10 => (intro w hSw; (try dsimp only at hSw); go_simp; (try with_reducible rfl))
  try simp only [Act.put, List.setIfInBounds_toArray, List.set_cons_zero, List.set_cons_succ]
  refine wpAnyH_take (i := 11) (oi := { dst := some 16, op := Op.fieldAddr 52 (Operand.tmp 15) 2, type := 0, pos := "ideal.go:104", after := #[{ on := 10, ground := Ground.data }], guard := none }) (v := ?vy11) rfl (by kernel_rfl) (by kernel_rfl) (by kernel_rfl) (fun _ _ _ h => h) (Or.inl ⟨by rfl, ?hyy11⟩) hHeld ?_
  case hyy11 => (intro w hSw; (try dsimp only at hSw); go_simp; (try with_reducible rfl))
  try simp only [Act.put, List.setIfInBounds_toArray, List.set_cons_zero, List.set_cons_succ]
  refine wpAnyH_take (i := 12) (oi := { dst := some 17, op := Op.load 49 (Operand.tmp 16), type := 49, pos := "ideal.go:104", after := #[{ on := 11, ground := Ground.data }], guard := none }) (v := ?vy12) rfl (by kernel_rfl) (by kernel_rfl) (by kernel_rfl) (fun _ _ _ h => h) (Or.inl ⟨by rfl, ?hyy12⟩) hHeld ?_
  case hyy12 => (intro w hSw; (try dsimp only at hSw); go_simp; (try with_reducible rfl))
  try simp only [Act.put, List.setIfInBounds_toArray, List.set_cons_zero, List.set_cons_succ]
  refine wpAnyH_take (i := 14) (oi := { dst := some 19, op := Op.move (Operand.tmp 0), type := 27, pos := "ideal.go:104", after := #[], guard := none }) (v := ?vy14) rfl (by kernel_rfl) (by kernel_rfl) (by kernel_rfl) (fun _ _ _ h => h) (Or.inl ⟨by rfl, ?hyy14⟩) hHeld ?_
  case hyy14 => (intro w hSw; (try dsimp only at hSw); go_simp; (try with_reducible rfl))
  try simp only [Act.put, List.setIfInBounds_toArray, List.set_cons_zero, List.set_cons_succ]
  refine wpAnyH_take (i := 15) (oi := { dst := some 20, op := Op.nilCheck (Operand.tmp 19), type := 0, pos := "ideal.go:104", after := #[{ on := 14, ground := Ground.data }], guard := none }) (v := ?vy15) rfl (by kernel_rfl) (by kernel_rfl) (by kernel_rfl) (fun _ _ _ h => h) (Or.inl ⟨by rfl, ?hyy15⟩) hHeld ?_
  case hyy15 => (intro w hSw; (try dsimp only at hSw); go_simp; (try with_reducible rfl))
  try simp only [Act.put, List.setIfInBounds_toArray, List.set_cons_zero, List.set_cons_succ]
  refine wpAnyH_take (i := 16) (oi := { dst := some 21, op := Op.fieldAddr 52 (Operand.tmp 20) 3, type := 0, pos := "ideal.go:104", after := #[{ on := 15, ground := Ground.data }], guard := none }) (v := ?vy16) rfl (by kernel_rfl) (by kernel_rfl) (by kernel_rfl) (fun _ _ _ h => h) (Or.inl ⟨by rfl, ?hyy16⟩) hHeld ?_
  case hyy16 => (intro w hSw; (try dsimp only at hSw); go_simp; (try with_reducible rfl))
  try simp only [Act.put, List.setIfInBounds_toArray, List.set_cons_zero, List.set_cons_succ]
  refine wpAnyH_take (i := 17) (oi := { dst := some 22, op := Op.load 50 (Operand.tmp 21), type := 50, pos := "ideal.go:104", after := #[{ on := 16, ground := Ground.data }], guard := none }) (v := ?vy17) rfl (by kernel_rfl) (by kernel_rfl) (by kernel_rfl) (fun _ _ _ h => h) (Or.inl ⟨by rfl, ?hyy17⟩) hHeld ?_
  case hyy17 => (intro w hSw; (try dsimp only at hSw); go_simp; (try with_reducible rfl))
  try simp only [Act.put, List.setIfInBounds_toArray, List.set_cons_zero, List.set_cons_succ]
  refine wpAnyH_ready (rs := [8]) (by kernel_rfl) (by simp) ?_
  refine AllReadyH.cons (o := { dst := some 13, op := Op.call { callee := Callee.value (Operand.func 40), args := #[Operand.tmp 12], argTypes := #[49] }, type := 49, pos := "ideal.go:104", after := #[{ on := 7, ground := Ground.data }], guard := none }) rfl (fun K hK => ?_) AllReadyH.nil
  go_simp
  refine (HR.out _ HH.out).mono ?_
  rintro e W1 ⟨r1, rfl, hr1, hrow1, hW1⟩
  have HH1 := Lib.hid (HH.out.below hW1)
  have HB1 := Lib.hid (belowOn HB.out hW1)
  have HR1 := Lib.hid (And.intro (Nat.le_trans HB.out.size hr1) hrow1)
  clear hr1 hrow1 hW1 HH HB HR c0 c1 c2 c3 c4 c5 c6 hHeld
  obtain ⟨c0, c1, c2, c3, c4, c5, c6, _⟩ := HH1.out.cells
  rw [hnn] at c4
  refine hK.out _ _ ?_ (fun hHeld => ?_)
  · exact ⟨c0, c1, c2, c3, c4, c5, c6⟩
  clear hK K
  try simp only [Act.put, List.setIfInBounds_toArray, List.set_cons_zero, List.set_cons_succ]
  refine wpAnyH_ready (rs := [13]) (by kernel_rfl) (by simp) ?_
  refine AllReadyH.cons (o := { dst := some 18, op := Op.call { callee := Callee.value (Operand.func 40), args := #[Operand.tmp 17], argTypes := #[49] }, type := 49, pos := "ideal.go:104", after := #[{ on := 12, ground := Ground.data }, { on := 8, ground := Ground.chain }], guard := none }) rfl (fun K hK => ?_) AllReadyH.nil
  go_simp
  refine (HL.out _ HH1.out).mono ?_
  rintro e W2 ⟨r2, rfl, hr2, hrow2, hW2⟩
  have HH2 := Lib.hid (HH1.out.below hW2)
  have HB2 := Lib.hid (belowOn HB1.out hW2)
  have HR2 := Lib.hid (And.intro (show r1 < r2 by have := HR1.out.2.lt; omega) hrow2)
  have HR1' := Lib.hid (And.intro HR1.out.1 (HR1.out.2.other (hW2.block _ HR1.out.2.lt)))
  clear hr2 hrow2 hW2 HH1 HB1 HL HR1 c0 c1 c2 c3 c4 c5 c6 hHeld
  obtain ⟨c0, c1, c2, c3, c4, c5, c6, _⟩ := HH2.out.cells
  rw [hnn] at c4
  refine hK.out _ _ ?_ (fun hHeld => ?_)
  · exact ⟨c0, c1, c2, c3, c4, c5, c6⟩
  clear hK K
  try simp only [Act.put, List.setIfInBounds_toArray, List.set_cons_zero, List.set_cons_succ]
  refine wpAnyH_ready (rs := [18]) (by kernel_rfl) (by simp) ?_
  refine AllReadyH.cons (o := { dst := some 23, op := Op.call { callee := Callee.value (Operand.func 41), args := #[Operand.tmp 22], argTypes := #[50] }, type := 50, pos := "ideal.go:104", after := #[{ on := 17, ground := Ground.data }, { on := 13, ground := Ground.chain }], guard := none }) rfl (fun K hK => ?_) AllReadyH.nil
  go_simp
  refine (HM.out _ HH2.out).mono ?_
  rintro e W3 ⟨r3, rfl, hr3, hrow3, hW3⟩
  have HH3 := Lib.hid (HH2.out.below hW3)
  have HB3 := Lib.hid (belowOn HB2.out hW3)
  have HR3 := Lib.hid (And.intro (show r2 < r3 by have := HR2.out.2.lt; omega) hrow3)
  have HR2' := Lib.hid (And.intro HR2.out.1 (HR2.out.2.other (hW3.block _ HR2.out.2.lt)))
  have HR1'' := Lib.hid (And.intro HR1'.out.1 (HR1'.out.2.other (hW3.block _ HR1'.out.2.lt)))
  clear hr3 hrow3 hW3 HH2 HB2 HM HR1' HR2 c0 c1 c2 c3 c4 c5 c6 hHeld
  obtain ⟨c0, c1, c2, c3, c4, c5, c6, _⟩ := HH3.out.cells
  rw [hnn] at c4
  refine hK.out _ _ ?_ (fun hHeld => ?_)
  · exact ⟨c0, c1, c2, c3, c4, c5, c6⟩
  clear hK K
  try simp only [Act.put, List.setIfInBounds_toArray, List.set_cons_zero, List.set_cons_succ]
  refine wpAnyH_take (i := 19) (oi := { dst := some 24, op := Op.build 52 #[(0, Operand.tmp 8), (1, Operand.tmp 13), (2, Operand.tmp 18), (3, Operand.tmp 23)], type := 52, pos := "ideal.go:104", after := #[{ on := 3, ground := Ground.data }, { on := 8, ground := Ground.data }, { on := 13, ground := Ground.data }, { on := 18, ground := Ground.data }], guard := none }) (v := ?vy19) rfl (by kernel_rfl) (by kernel_rfl) (by kernel_rfl) (fun _ _ _ h => h) (Or.inl ⟨by rfl, ?hyy19⟩) hHeld ?_
  case hyy19 => (intro w hSw; (try dsimp only at hSw); go_simp; (try with_reducible rfl))
  try simp only [Act.put, List.setIfInBounds_toArray, List.set_cons_zero, List.set_cons_succ]
  refine wpAnyH_ready (rs := [20]) (by kernel_rfl) (by simp) ?_
  refine AllReadyH.cons (o := { dst := some 25, op := Op.box 52 (Operand.tmp 24), type := 27, pos := "ideal.go:104", after := #[{ on := 19, ground := Ground.data }], guard := none }) rfl (fun K hK => ?_) AllReadyH.nil
  go_simp
  have HH4 := Lib.hid (HH3.out.below (below_new W3 (.cells #[.int .i64 2, .int .i64 b, .int .i64 c, .int .i64 d, .slice (some ⟨r1, 0, none⟩) nn nn, .slice (some ⟨r2, 0, none⟩) d d, .slice (some ⟨r3, 0, none⟩) s.n s.n] 52)))
  clear c0 c1 c2 c3 c4 c5 c6 hHeld
  obtain ⟨c0, c1, c2, c3, c4, c5, c6, _⟩ := HH4.out.cells
  rw [hnn] at c4
  refine hK.out _ _ ?_ (fun hHeld => ?_)
  · exact ⟨c0, c1, c2, c3, c4, c5, c6⟩
  clear hK K
  try simp only [Act.put, List.setIfInBounds_toArray, List.set_cons_zero, List.set_cons_succ]
  refine wpAnyH_take (i := 21) (oi := { dst := some 2, op := Op.assign (Operand.tmp 25), type := 27, pos := "ideal.go:104", after := #[{ on := 20, ground := Ground.data }, { on := 18, ground := Ground.chain }, { on := 0, ground := Ground.phase }, { on := 1, ground := Ground.phase }, { on := 2, ground := Ground.phase }, { on := 3, ground := Ground.phase }, { on := 4, ground := Ground.phase }, { on := 5, ground := Ground.phase }, { on := 6, ground := Ground.phase }, { on := 7, ground := Ground.phase }, { on := 8, ground := Ground.phase }, { on := 9, ground := Ground.phase }, { on := 10, ground := Ground.phase }, { on := 11, ground := Ground.phase }, { on := 12, ground := Ground.phase }, { on := 13, ground := Ground.phase }, { on := 14, ground := Ground.phase }, { on := 15, ground := Ground.phase }, { on := 16, ground := Ground.phase }, { on := 17, ground := Ground.phase }, { on := 18, ground := Ground.phase }, { on := 19, ground := Ground.phase }, { on := 20, ground := Ground.phase }], guard := none }) (v := ?vy21) rfl (by kernel_rfl) (by kernel_rfl) (by kernel_rfl) (fun _ _ _ h => h) (Or.inl ⟨by rfl, ?hyy21⟩) hHeld ?_
  case hyy21 => (intro w hSw; (try dsimp only at hSw); go_simp; (try with_reducible rfl))
  try simp only [Act.put, List.setIfInBounds_toArray, List.set_cons_zero, List.set_cons_succ]
  refine wpAnyH_done (by kernel_rfl) ?_ _
  clear hHeld
  go_wp2_with fail
  go_ret
  subst hnn
  have h1 := HR1''.out; have h2 := HR2'.out; have h3 := HR3.out
  have l1 := h1.2.lt; have l2 := h2.2.lt
  have l3 : r3 < W3.heap.size := h3.2.lt r3 rfl
  have hb := below_new W3 (.cells #[.int .i64 2, .int .i64 b, .int .i64 c, .int .i64 d, .slice (some ⟨r1, 0, none⟩) (b * c) (b * c), .slice (some ⟨r2, 0, none⟩) d d, .slice (some ⟨r3, 0, none⟩) s.n s.n] 52)
  refine ⟨W3.heap.size, r1, r2, .slice (some ⟨r3, 0, none⟩) s.n s.n, rfl, ⟨newBlock _ _, h1.2.other (hb.block _ l1), h2.2.other (hb.block _ l2), h3.2.other (fun k e => hb.block k (h3.2.lt k e)), by omega, by omega, by omega, ?_, ?_, ?_, HH3.out.inv, HH3.out.right, HH3.out.few⟩, ?_, belowOn HB3.out hb⟩
  · simp [Value.ownBlock]; omega
  · simp [Value.ownBlock]; omega
  · simp [Value.ownBlock]; omega
  · have := HB3.out.size
    rintro k (rfl | rfl | rfl | e)
    · exact this
    · exact h1.1
    · omega
    · obtain rfl : r3 = k := by simpa [Value.ownBlock] using e
      omega
end Go.Proofs.YthlpmkjhiifibaaDoor
