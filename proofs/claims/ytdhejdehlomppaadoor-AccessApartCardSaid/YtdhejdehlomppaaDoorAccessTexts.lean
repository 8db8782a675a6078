/- The law AccessTexts answers true for every configuration and every slice of accesses, in whatever memory in which the listed variables read as their texts lay them. -/
import Derived.Test.YtdhejdehlomppaaDoorAccessRows
namespace Go.Proofs.YtdhejdehlomppaaDoor
open Go Go.RowKit
set_option maxRecDepth 100000
attribute [local go_sem ↓] Go.wp_at_zero Go.wp_at_succ

theorem accT_ne (b c d k p : Int) (x y o : Nat) : accT b c d k p x y o ≠ [] := by
  unfold accT accL
  rw [Lib.join_cons]
  intro h
  have h1 := congrArg List.length h
  rw [List.length_append] at h1
  have h2 : 0 < (kindT k).length := by
    unfold kindT
    repeat (split; · decide)
    decide
  simp only [List.length_nil] at h1
  omega
/-- What stays while the law goes on: its own row of texts, the configuration, the map, and the access at hand. -/
structure Bun (w wr : World) (v : Value) (M : Nat) (a b c d : Int) (N : Nat) (l : List (List UInt8)) (b2 off : Nat) (q : Acc) : Prop where
  strs : Strs (M + 1) w wr v N l
  box : BoxAt wr w.heap.size a b c d
  map : BoxAt wr M a b c d
  acc : CellsAt wr b2 off q
theorem Bun.below {w wr w' : World} {v : Value} {M : Nat} {a b c d : Int} {N : Nat} {l : List (List UInt8)} {b2 off : Nat} {q : Acc} (h : Bun w wr v M a b c d N l b2 off q) (hb : Below wr.heap.size wr w') : Bun w w' v M a b c d N l b2 off q :=
  ⟨h.strs.below hb, h.box.below hb, h.map.below hb, h.acc.below hb⟩
theorem Bun.drew {w wr : World} {v : Value} {M : Nat} {a b c d : Int} {N : Nat} {l : List (List UInt8)} {b2 off : Nat} {q : Acc} (h : Bun w wr v M a b c d N l b2 off q) : Bun w wr.drew v M a b c d N l b2 off q := h.below (Below.refl _ _).drew
theorem Bun.held {w w' : World} {v : Value} {M : Nat} {a b c d : Int} {N : Nat} {l : List (List UInt8)} {b2 off i : Nat} {qk qi : Int} {qx qy qo : Nat} (h : Bun w w' v M a b c d N l b2 (off + i * 5) ⟨qk, qi, qx, qy, qo⟩) : w'.cell? ⟨w.heap.size, 0, none⟩ = some (.int .i64 a) ∧ w'.cell? ⟨w.heap.size, 1, none⟩ = some (.int .i64 b) ∧ w'.cell? ⟨w.heap.size, 2, none⟩ = some (.int .i64 c) ∧ w'.cell? ⟨w.heap.size, 3, none⟩ = some (.int .i64 d) ∧ w'.cell? ⟨M, 0, none⟩ = some (.int .i64 a) ∧ w'.cell? ⟨M, 1, none⟩ = some (.int .i64 b) ∧ w'.cell? ⟨M, 2, none⟩ = some (.int .i64 c) ∧ w'.cell? ⟨M, 3, none⟩ = some (.int .i64 d) ∧ w'.cell? ⟨b2, off + i * 5, none⟩ = some (.int .i64 qk) ∧ w'.cell? ⟨b2, off + i * 5 + 1, none⟩ = some (.int .i64 qi) ∧ w'.cell? ⟨b2, off + i * 5 + 2, none⟩ = some (.int .u64 qx) ∧ w'.cell? ⟨b2, off + i * 5 + 3, none⟩ = some (.int .u64 qy) ∧ w'.cell? ⟨b2, off + i * 5 + 4, none⟩ = some (.int .u64 qo) :=
  ⟨h.box.1, h.box.2.1, h.box.2.2.1, h.box.2.2.2, h.map.1, h.map.2.1, h.map.2.2.1, h.map.2.2.2, h.acc.1, h.acc.2.1, h.acc.2.2.1, h.acc.2.2.2.1, h.acc.2.2.2.2⟩
theorem texts_long (a b c d : Int) (ad : Option Addr) (n cap : Nat) (hn : 40 < n) (w : World) (hL : Laid6 w) :
    Calls Tryd.prog 3 #[.agg #[.int .i64 a, .int .i64 b, .int .i64 c, .int .i64 d], .slice ad n cap] w fun e w' => e = .returned (.bool true) ∧ Below w.heap.size w w' := by
  have hb := below_new w (.cells #[.int .i64 a, .int .i64 b, .int .i64 c, .int .i64 d] 23)
  have HW := Lib.hid (awake6_c _ (hL.below hb))
  have HB := Lib.hid hb
  have HX := Lib.hid (BoxAt.new w a b c d 23)
  clear hb hL
  go_enter Tryd.func3, Tryd.ntmps3
  go_wp2_with fail
  refine HW.out.mono ?_
  rintro e W1 ⟨rfl, hW⟩
  have HB1 := Lib.hid (belowOn HB.out hW)
  have HX1 := Lib.hid (HX.out.below hW)
  clear hW HW HB HX
  obtain ⟨x0, x1, x2, x3⟩ := HX1.out
  go_wp2_with fail
  go_ret
  exact ⟨rfl, HB1.out⟩
theorem texts_big (a b c d : Int) (ad : Option Addr) (n cap : Nat) (hn : n ≤ 40) (hbig : 30 < a) (w : World) (hL : Laid6 w) :
    Calls Tryd.prog 3 #[.agg #[.int .i64 a, .int .i64 b, .int .i64 c, .int .i64 d], .slice ad n cap] w fun e w' => e = .returned (.bool true) ∧ Below w.heap.size w w' := by
  have hb := below_new w (.cells #[.int .i64 a, .int .i64 b, .int .i64 c, .int .i64 d] 23)
  have HW := Lib.hid (awake6_c _ (hL.below hb))
  have HB := Lib.hid hb
  have HX := Lib.hid (BoxAt.new w a b c d 23)
  clear hb hL
  go_enter Tryd.func3, Tryd.ntmps3
  go_wp2_with fail
  refine HW.out.mono ?_
  rintro e W1 ⟨rfl, hW⟩
  have HB1 := Lib.hid (belowOn HB.out hW)
  have HX1 := Lib.hid (HX.out.below hW)
  clear hW HW HB HX
  obtain ⟨x0, x1, x2, x3⟩ := HX1.out
  go_wp2_with fail
  go_ret
  exact ⟨rfl, HB1.out⟩
set_option maxHeartbeats 12800000 in
theorem texts_short (a b c d : Int) (ad : Option Addr) (n cap : Nat) (g : Nat → Acc) (hn : n ≤ 40) (hsm : ¬ 30 < a) (hok : ∀ j, j < n → (g j).ok) (w : World) (hL : Laid6 w) (hA : AccsAt w ad n g) :
    Calls Tryd.prog 3 #[.agg #[.int .i64 a, .int .i64 b, .int .i64 c, .int .i64 d], .slice ad n cap] w fun e w' => e = .returned (.bool true) ∧ Below w.heap.size w w' := by
  obtain ⟨i9, hi9, hz0, hz1, hz2⟩ := info_parts infoString4
  have hb := below_new w (.cells #[.int .i64 a, .int .i64 b, .int .i64 c, .int .i64 d] 23)
  have HW := Lib.hid (awake6_c _ (hL.below hb))
  have HB := Lib.hid hb
  have HX := Lib.hid (BoxAt.new w a b c d 23)
  have HOK := Lib.hid hok; have HL := Lib.hid hL; have HA := Lib.hid hA
  have HR := Lib.hid (Rows_c a b c d ad n cap g hn hok)
  have HTl := Lib.hid (rowsT_len (fun j => txt a b c d (g j)) n)
  have HT : Hid (∀ j, txt a b c d (g j) = (fun j => txt a b c d (g j)) j) := Lib.hid (fun _ => rfl)
  generalize (fun j => txt a b c d (g j)) = T at *
  clear hb hok hL hA
  go_enter Tryd.func3, Tryd.ntmps3
  go_wp2_with fail
  refine HW.out.mono ?_
  rintro e W1 ⟨rfl, hW⟩
  have HB1 := Lib.hid (belowOn HB.out hW)
  have HX1 := Lib.hid (HX.out.below hW)
  clear hW HW HB HX
  obtain ⟨x0, x1, x2, x3⟩ := HX1.out
  have hl1 : w.heap.size < W1.heap.size := lt_of_cell x0
  have HX2 := Lib.hid (HX1.out.below (below_new W1 (.cells #[.int .i64 a, .int .i64 b, .int .i64 c, .int .i64 d] 27)))
  have HM2 := Lib.hid (BoxAt.new W1 a b c d 27)
  have HS0 : Hid (Strs (W1.heap.size + 1) w (W1.alloc (.cells #[.int .i64 a, .int .i64 b, .int .i64 c, .int .i64 d] 27)) (.slice none 0 0) 0 []) := Lib.hid ⟨rfl, World.ownsRow_nil _ _ _ _, below_on HB1.out _, by omega⟩
  clear HX1 HB1
  go_wp2_with fail
  generalize W1.heap.size = M at *
  clear x0 x1 x2 x3
  go_loopw [6, 7] (fun v vi wr => ∃ i N : Nat, vi = .int .i64 i ∧ i ≤ n ∧ N ≤ i ∧ Hid (Strs (M + 1) w wr v N (rowsT T i)) ∧ Hid (BoxAt wr w.heap.size a b c d) ∧ Hid (BoxAt wr M a b c d)) (fun _ vi _ => n - (intOf vi).toNat)
  case atStart => exact ⟨0, 0, rfl, by omega, by omega, HS0, HX2, HM2⟩
  case round =>
    clear HS0 HX2 HM2
    obtain ⟨i, N, rfl, hi, hN, HS, HX, HM⟩ := hrel
    by_cases hlt : i < n
    · obtain ⟨b2, off, rfl, hb2, hc⟩ := (HA.out.below HS.out.old).at' hlt
      obtain ⟨hx, hy, ho⟩ := HOK.out i hlt
      have hTi := HT.out i
      have HRT : Hid (rowsT T (i + 1) = if T i = [] then rowsT T i else rowsT T i ++ [T i]) := Lib.hid rfl
      unfold txt at hTi
      generalize g i = q at hc hx hy ho hTi
      obtain ⟨qk, qi, qx, qy, qo⟩ := q
      simp only at hx hy ho hTi
      have hTx := Text_c a b c d qk qi qx qy qo hx hy ho
      have hRef := refAcc_c a b c d qk qi qx qy qo hx hy ho
      have hRt := Right_c a b c d qk qi qx qy qo
      have HK : Hid (Bun w wr u6 M a b c d N (rowsT T i) b2 (off + i * 5) ⟨qk, qi, qx, qy, qo⟩) := Lib.hid ⟨HS.out, HX.out, HM.out, hc⟩
      clear HS HX HM hc
      by_cases hR : RightA a b c d qk qi qx qy
      · rw [decide_eq_true hR] at hRt
        have hne : T i ≠ [] := by
          rw [← hTi]; unfold textF; rw [if_pos hR]
          exact accT_ne _ _ _ _ _ _ _ _
        rw [hTi] at hTx hRef
        generalize T i = tx at hTx hRef HRT hne
        rw [if_neg hne] at HRT
        have hq : (tx == []) = false := by simpa using hne
        have hq2 : (tx != []) = true := by simpa using hne
        clear hTi hx hy ho hR hne
        have HRef := Lib.hid hRef; have HTx := Lib.hid hTx; have HRt := Lib.hid hRt
        have HK0 := Lib.hid HK.out.drew
        clear hRef hTx hRt HK
        go_wp2_with fail
        refine wp_region_held_drew (S := (fun w' => w'.cell? ⟨w.heap.size, 0, none⟩ = some (.int .i64 a) ∧ w'.cell? ⟨w.heap.size, 1, none⟩ = some (.int .i64 b) ∧ w'.cell? ⟨w.heap.size, 2, none⟩ = some (.int .i64 c) ∧ w'.cell? ⟨w.heap.size, 3, none⟩ = some (.int .i64 d) ∧ w'.cell? ⟨M, 0, none⟩ = some (.int .i64 a) ∧ w'.cell? ⟨M, 1, none⟩ = some (.int .i64 b) ∧ w'.cell? ⟨M, 2, none⟩ = some (.int .i64 c) ∧ w'.cell? ⟨M, 3, none⟩ = some (.int .i64 d) ∧ w'.cell? ⟨b2, off + i * 5, none⟩ = some (.int .i64 qk) ∧ w'.cell? ⟨b2, off + i * 5 + 1, none⟩ = some (.int .i64 qi) ∧ w'.cell? ⟨b2, off + i * 5 + 2, none⟩ = some (.int .u64 qx) ∧ w'.cell? ⟨b2, off + i * 5 + 3, none⟩ = some (.int .u64 qy) ∧ w'.cell? ⟨b2, off + i * 5 + 4, none⟩ = some (.int .u64 qo))) (by kernel_rfl) ?_ (fun hHeld => ?_)
        · exact HK0.out.held
        refine wpAnyH_take (i := 0) (oi := { dst := some 27, op := Op.load 23 (Operand.tmp 2), type := 23, pos := "law.go:31", after := #[], guard := none }) (v := ?vya0) rfl (by kernel_rfl) (by kernel_rfl) (by kernel_rfl) (fun _ _ _ h => h) (Or.inl ⟨by rfl, ?hyya0⟩) hHeld ?_
        case hyya0 => (intro w hSw; (try dsimp only at hSw); go_simp; (try with_reducible rfl))
        try simp only [Act.put, List.setIfInBounds_toArray, List.set_cons_zero, List.set_cons_succ]
        refine wpAnyH_take (i := 1) (oi := { dst := some 28, op := Op.move (Operand.tmp 1), type := 24, pos := "law.go:31", after := #[], guard := none }) (v := ?vya1) rfl (by kernel_rfl) (by kernel_rfl) (by kernel_rfl) (fun _ _ _ h => h) (Or.inl ⟨by rfl, ?hyya1⟩) hHeld ?_
        case hyya1 => (intro w hSw; (try dsimp only at hSw); go_simp; (try with_reducible rfl))
        try simp only [Act.put, List.setIfInBounds_toArray, List.set_cons_zero, List.set_cons_succ]
        refine wpAnyH_take (i := 2) (oi := { dst := some 29, op := Op.move (Operand.tmp 7), type := 3, pos := "law.go:31", after := #[], guard := none }) (v := ?vya2) rfl (by kernel_rfl) (by kernel_rfl) (by kernel_rfl) (fun _ _ _ h => h) (Or.inl ⟨by rfl, ?hyya2⟩) hHeld ?_
        case hyya2 => (intro w hSw; (try dsimp only at hSw); go_simp; (try with_reducible rfl))
        try simp only [Act.put, List.setIfInBounds_toArray, List.set_cons_zero, List.set_cons_succ]
        refine wpAnyH_take (i := 3) (oi := { dst := some 30, op := Op.indexAddr 24 (Operand.tmp 28) (Operand.tmp 29), type := 0, pos := "law.go:31", after := #[{ on := 1, ground := Ground.data }, { on := 2, ground := Ground.data }], guard := none }) (v := ?vya3) rfl (by kernel_rfl) (by kernel_rfl) (by kernel_rfl) (fun _ _ _ h => h) (Or.inl ⟨by rfl, ?hyya3⟩) hHeld ?_
        case hyya3 => (intro w hSw; (try dsimp only at hSw); go_simp; (try with_reducible rfl))
        try simp only [Act.put, List.setIfInBounds_toArray, List.set_cons_zero, List.set_cons_succ]
        refine wpAnyH_take (i := 4) (oi := { dst := some 31, op := Op.load 33 (Operand.tmp 30), type := 33, pos := "law.go:31", after := #[{ on := 3, ground := Ground.data }], guard := none }) (v := ?vya4) rfl (by kernel_rfl) (by kernel_rfl) (by kernel_rfl) (fun _ _ _ h => h) (Or.inl ⟨by rfl, ?hyya4⟩) hHeld ?_
        case hyya4 => (intro w hSw; (try dsimp only at hSw); go_simp; (try with_reducible rfl))
        try simp only [Act.put, List.setIfInBounds_toArray, List.set_cons_zero, List.set_cons_succ]
        refine wpAnyH_ready (rs := [5]) (by kernel_rfl) (by simp) ?_
        refine AllReadyH.cons (o := { dst := some 32, op := Op.call { callee := Callee.value (Operand.func 7), args := #[Operand.tmp 27, Operand.tmp 31], argTypes := #[23, 33] }, type := 9, pos := "law.go:31", after := #[{ on := 0, ground := Ground.data }, { on := 4, ground := Ground.data }], guard := none }) rfl (fun K hK => ?_) AllReadyH.nil
        go_simp
        refine (HRef.out _).mono ?_
        rintro e v1 ⟨rfl, hV⟩
        have hK1 := Bun.below HK0.out hV
        clear hV hHeld
        try go_wp2_with fail
        refine hK.out _ _ ?_ (fun hHeld => ?_)
        · exact hK1.held
        clear hK K
        try simp only [Act.put, List.setIfInBounds_toArray, List.set_cons_zero, List.set_cons_succ]
        refine wpAnyH_take (i := 6) (oi := { dst := some 8, op := Op.assign (Operand.tmp 32), type := 9, pos := "law.go:31", after := #[{ on := 5, ground := Ground.data }, { on := 5, ground := Ground.chain }, { on := 0, ground := Ground.phase }, { on := 1, ground := Ground.phase }, { on := 2, ground := Ground.phase }, { on := 3, ground := Ground.phase }, { on := 4, ground := Ground.phase }, { on := 5, ground := Ground.phase }], guard := none }) (v := ?vya6) rfl (by kernel_rfl) (by kernel_rfl) (by kernel_rfl) (fun _ _ _ h => h) (Or.inl ⟨by rfl, ?hyya6⟩) hHeld ?_
        case hyya6 => (intro w hSw; (try dsimp only at hSw); go_simp; (try with_reducible rfl))
        try simp only [Act.put, List.setIfInBounds_toArray, List.set_cons_zero, List.set_cons_succ]
        refine wpAnyH_done (by kernel_rfl) ?_ _
        have HK1 := Lib.hid (Bun.drew hK1)
        clear hK1 HK0 HRef hHeld
        go_wp2_with fail
        refine wp_region_held_drew (S := (fun w' => w'.cell? ⟨w.heap.size, 0, none⟩ = some (.int .i64 a) ∧ w'.cell? ⟨w.heap.size, 1, none⟩ = some (.int .i64 b) ∧ w'.cell? ⟨w.heap.size, 2, none⟩ = some (.int .i64 c) ∧ w'.cell? ⟨w.heap.size, 3, none⟩ = some (.int .i64 d) ∧ w'.cell? ⟨M, 0, none⟩ = some (.int .i64 a) ∧ w'.cell? ⟨M, 1, none⟩ = some (.int .i64 b) ∧ w'.cell? ⟨M, 2, none⟩ = some (.int .i64 c) ∧ w'.cell? ⟨M, 3, none⟩ = some (.int .i64 d) ∧ w'.cell? ⟨b2, off + i * 5, none⟩ = some (.int .i64 qk) ∧ w'.cell? ⟨b2, off + i * 5 + 1, none⟩ = some (.int .i64 qi) ∧ w'.cell? ⟨b2, off + i * 5 + 2, none⟩ = some (.int .u64 qx) ∧ w'.cell? ⟨b2, off + i * 5 + 3, none⟩ = some (.int .u64 qy) ∧ w'.cell? ⟨b2, off + i * 5 + 4, none⟩ = some (.int .u64 qo))) (by kernel_rfl) ?_ (fun hHeld => ?_)
        · exact HK1.out.held
        refine wpAnyH_take (i := 0) (oi := { dst := some 33, op := Op.load 27 (Operand.tmp 5), type := 27, pos := "law.go:32", after := #[], guard := none }) (v := ?vyb0) rfl (by kernel_rfl) (by kernel_rfl) (by kernel_rfl) (fun _ _ _ h => h) (Or.inl ⟨by rfl, ?hyyb0⟩) hHeld ?_
        case hyyb0 => (intro w hSw; (try dsimp only at hSw); go_simp; (try with_reducible rfl))
        try simp only [Act.put, List.setIfInBounds_toArray, List.set_cons_zero, List.set_cons_succ]
        refine wpAnyH_take (i := 1) (oi := { dst := some 34, op := Op.move (Operand.tmp 1), type := 24, pos := "law.go:32", after := #[], guard := none }) (v := ?vyb1) rfl (by kernel_rfl) (by kernel_rfl) (by kernel_rfl) (fun _ _ _ h => h) (Or.inl ⟨by rfl, ?hyyb1⟩) hHeld ?_
        case hyyb1 => (intro w hSw; (try dsimp only at hSw); go_simp; (try with_reducible rfl))
        try simp only [Act.put, List.setIfInBounds_toArray, List.set_cons_zero, List.set_cons_succ]
        refine wpAnyH_take (i := 2) (oi := { dst := some 35, op := Op.move (Operand.tmp 7), type := 3, pos := "law.go:32", after := #[], guard := none }) (v := ?vyb2) rfl (by kernel_rfl) (by kernel_rfl) (by kernel_rfl) (fun _ _ _ h => h) (Or.inl ⟨by rfl, ?hyyb2⟩) hHeld ?_
        case hyyb2 => (intro w hSw; (try dsimp only at hSw); go_simp; (try with_reducible rfl))
        try simp only [Act.put, List.setIfInBounds_toArray, List.set_cons_zero, List.set_cons_succ]
        refine wpAnyH_take (i := 3) (oi := { dst := some 36, op := Op.indexAddr 24 (Operand.tmp 34) (Operand.tmp 35), type := 0, pos := "law.go:32", after := #[{ on := 1, ground := Ground.data }, { on := 2, ground := Ground.data }], guard := none }) (v := ?vyb3) rfl (by kernel_rfl) (by kernel_rfl) (by kernel_rfl) (fun _ _ _ h => h) (Or.inl ⟨by rfl, ?hyyb3⟩) hHeld ?_
        case hyyb3 => (intro w hSw; (try dsimp only at hSw); go_simp; (try with_reducible rfl))
        try simp only [Act.put, List.setIfInBounds_toArray, List.set_cons_zero, List.set_cons_succ]
        refine wpAnyH_take (i := 4) (oi := { dst := some 37, op := Op.load 33 (Operand.tmp 36), type := 33, pos := "law.go:32", after := #[{ on := 3, ground := Ground.data }], guard := none }) (v := ?vyb4) rfl (by kernel_rfl) (by kernel_rfl) (by kernel_rfl) (fun _ _ _ h => h) (Or.inl ⟨by rfl, ?hyyb4⟩) hHeld ?_
        case hyyb4 => (intro w hSw; (try dsimp only at hSw); go_simp; (try with_reducible rfl))
        try simp only [Act.put, List.setIfInBounds_toArray, List.set_cons_zero, List.set_cons_succ]
        refine wpAnyH_take (i := 6) (oi := { dst := some 39, op := Op.move (Operand.tmp 8), type := 9, pos := "law.go:32", after := #[], guard := none }) (v := ?vyb6) rfl (by kernel_rfl) (by kernel_rfl) (by kernel_rfl) (fun _ _ _ h => h) (Or.inl ⟨by rfl, ?hyyb6⟩) hHeld ?_
        case hyyb6 => (intro w hSw; (try dsimp only at hSw); go_simp; (try with_reducible rfl))
        try simp only [Act.put, List.setIfInBounds_toArray, List.set_cons_zero, List.set_cons_succ]
        refine wpAnyH_ready (rs := [5]) (by kernel_rfl) (by simp) ?_
        refine AllReadyH.cons (o := { dst := some 38, op := Op.call { callee := Callee.value (Operand.func 8), args := #[Operand.tmp 33, Operand.tmp 37], argTypes := #[27, 33] }, type := 9, pos := "law.go:32", after := #[{ on := 0, ground := Ground.data }, { on := 4, ground := Ground.data }], guard := none }) rfl (fun K hK => ?_) AllReadyH.nil
        go_simp
        refine (HTx.out _ (HL.out.below HK1.out.strs.old)).mono ?_
        rintro e v2 ⟨rfl, hV⟩
        have hK2 := Bun.below HK1.out hV
        clear hV hHeld
        try go_wp2_with fail
        refine hK.out _ _ ?_ (fun hHeld => ?_)
        · exact hK2.held
        clear hK K
        try simp only [Act.put, List.setIfInBounds_toArray, List.set_cons_zero, List.set_cons_succ]
        refine wpAnyH_take (i := 7) (oi := { dst := some 40, op := Op.binOp BinOp.neq 9 (Operand.tmp 38) (Operand.tmp 39) 9, type := 4, pos := "law.go:32", after := #[{ on := 5, ground := Ground.data }, { on := 6, ground := Ground.data }], guard := none }) (v := ?vyb7) rfl (by kernel_rfl) (by kernel_rfl) (by kernel_rfl) (fun _ _ _ h => h) (Or.inl ⟨by rfl, ?hyyb7⟩) hHeld ?_
        case hyyb7 => (intro w hSw; (try dsimp only at hSw); go_simp; (try with_reducible rfl))
        try simp only [Act.put, List.setIfInBounds_toArray, List.set_cons_zero, List.set_cons_succ]
        refine wpAnyH_take (i := 8) (oi := { dst := some 41, op := Op.move (Operand.tmp 40), type := 4, pos := "law.go:32", after := #[{ on := 7, ground := Ground.data }, { on := 5, ground := Ground.chain }], guard := none }) (v := ?vyb8) rfl (by kernel_rfl) (by kernel_rfl) (by kernel_rfl) (fun _ _ _ h => h) (Or.inl ⟨by rfl, ?hyyb8⟩) hHeld ?_
        case hyyb8 => (intro w hSw; (try dsimp only at hSw); go_simp; (try with_reducible rfl))
        try simp only [Act.put, List.setIfInBounds_toArray, List.set_cons_zero, List.set_cons_succ]
        refine wpAnyH_take (i := 9) (oi := { dst := some 42, op := Op.load 27 (Operand.tmp 5), type := 27, pos := "law.go:32", after := #[{ on := 8, ground := Ground.guard }], guard := some (8, false) }) (v := ?vyb9) rfl (by kernel_rfl) (by kernel_rfl) (by kernel_rfl) (fun _ _ _ h => h) (Or.inl ⟨by rfl, ?hyyb9⟩) hHeld ?_
        case hyyb9 => (intro w hSw; (try dsimp only at hSw); go_simp; (try with_reducible rfl))
        try simp only [Act.put, List.setIfInBounds_toArray, List.set_cons_zero, List.set_cons_succ]
        refine wpAnyH_take (i := 10) (oi := { dst := some 43, op := Op.move (Operand.tmp 1), type := 24, pos := "law.go:32", after := #[{ on := 8, ground := Ground.guard }], guard := some (8, false) }) (v := ?vyb10) rfl (by kernel_rfl) (by kernel_rfl) (by kernel_rfl) (fun _ _ _ h => h) (Or.inl ⟨by rfl, ?hyyb10⟩) hHeld ?_
        case hyyb10 => (intro w hSw; (try dsimp only at hSw); go_simp; (try with_reducible rfl))
        try simp only [Act.put, List.setIfInBounds_toArray, List.set_cons_zero, List.set_cons_succ]
        refine wpAnyH_take (i := 11) (oi := { dst := some 44, op := Op.move (Operand.tmp 7), type := 3, pos := "law.go:32", after := #[{ on := 8, ground := Ground.guard }], guard := some (8, false) }) (v := ?vyb11) rfl (by kernel_rfl) (by kernel_rfl) (by kernel_rfl) (fun _ _ _ h => h) (Or.inl ⟨by rfl, ?hyyb11⟩) hHeld ?_
        case hyyb11 => (intro w hSw; (try dsimp only at hSw); go_simp; (try with_reducible rfl))
        try simp only [Act.put, List.setIfInBounds_toArray, List.set_cons_zero, List.set_cons_succ]
        refine wpAnyH_take (i := 12) (oi := { dst := some 45, op := Op.indexAddr 24 (Operand.tmp 43) (Operand.tmp 44), type := 0, pos := "law.go:32", after := #[{ on := 10, ground := Ground.data }, { on := 11, ground := Ground.data }, { on := 8, ground := Ground.guard }], guard := some (8, false) }) (v := ?vyb12) rfl (by kernel_rfl) (by kernel_rfl) (by kernel_rfl) (fun _ _ _ h => h) (Or.inl ⟨by rfl, ?hyyb12⟩) hHeld ?_
        case hyyb12 => (intro w hSw; (try dsimp only at hSw); go_simp; (try with_reducible rfl))
        try simp only [Act.put, List.setIfInBounds_toArray, List.set_cons_zero, List.set_cons_succ]
        refine wpAnyH_take (i := 13) (oi := { dst := some 46, op := Op.load 33 (Operand.tmp 45), type := 33, pos := "law.go:32", after := #[{ on := 12, ground := Ground.data }, { on := 8, ground := Ground.guard }], guard := some (8, false) }) (v := ?vyb13) rfl (by kernel_rfl) (by kernel_rfl) (by kernel_rfl) (fun _ _ _ h => h) (Or.inl ⟨by rfl, ?hyyb13⟩) hHeld ?_
        case hyyb13 => (intro w hSw; (try dsimp only at hSw); go_simp; (try with_reducible rfl))
        try simp only [Act.put, List.setIfInBounds_toArray, List.set_cons_zero, List.set_cons_succ]
        refine wpAnyH_take (i := 15) (oi := { dst := some 48, op := Op.move (Operand.tmp 8), type := 9, pos := "law.go:32", after := #[{ on := 8, ground := Ground.guard }], guard := some (8, false) }) (v := ?vyb15) rfl (by kernel_rfl) (by kernel_rfl) (by kernel_rfl) (fun _ _ _ h => h) (Or.inl ⟨by rfl, ?hyyb15⟩) hHeld ?_
        case hyyb15 => (intro w hSw; (try dsimp only at hSw); go_simp; (try with_reducible rfl))
        try simp only [Act.put, List.setIfInBounds_toArray, List.set_cons_zero, List.set_cons_succ]
        refine wpAnyH_take (i := 16) (oi := { dst := some 49, op := Op.binOp BinOp.neq 9 (Operand.tmp 48) (Operand.const (Value.string { data := #[] })) 9, type := 4, pos := "law.go:32", after := #[{ on := 15, ground := Ground.data }, { on := 8, ground := Ground.guard }], guard := some (8, false) }) (v := ?vyb16) rfl (by kernel_rfl) (by kernel_rfl) (by kernel_rfl) (fun _ _ _ h => h) (Or.inl ⟨by rfl, ?hyyb16⟩) hHeld ?_
        case hyyb16 => (intro w hSw; (try dsimp only at hSw); go_simp; (try with_reducible rfl))
        try simp only [Act.put, List.setIfInBounds_toArray, List.set_cons_zero, List.set_cons_succ]
        refine wpAnyH_ready (rs := [14]) (by kernel_rfl) (by simp) ?_
        refine AllReadyH.cons (o := { dst := some 47, op := Op.call { callee := Callee.value (Operand.func 9), args := #[Operand.tmp 42, Operand.tmp 46], argTypes := #[27, 33] }, type := 4, pos := "law.go:32", after := #[{ on := 9, ground := Ground.data }, { on := 13, ground := Ground.data }, { on := 8, ground := Ground.chain }, { on := 8, ground := Ground.guard }], guard := some (8, false) }) rfl (fun K hK => ?_) AllReadyH.nil
        go_simp
        refine (HRt.out _ (HL.out.below hK2.strs.old).base.spans).mono ?_
        rintro e v3 ⟨rfl, hV⟩
        have hK3 := Bun.below hK2 hV
        clear hV hHeld
        try go_wp2_with fail
        refine hK.out _ _ ?_ (fun hHeld => ?_)
        · exact hK3.held
        clear hK K
        try simp only [Act.put, List.setIfInBounds_toArray, List.set_cons_zero, List.set_cons_succ]
        refine wpAnyH_take (i := 17) (oi := { dst := some 50, op := Op.binOp BinOp.neq 4 (Operand.tmp 47) (Operand.tmp 49) 4, type := 4, pos := "law.go:32", after := #[{ on := 14, ground := Ground.data }, { on := 16, ground := Ground.data }, { on := 8, ground := Ground.guard }], guard := some (8, false) }) (v := ?vyb17) rfl (by kernel_rfl) (by kernel_rfl) (by kernel_rfl) (fun _ _ _ h => h) (Or.inl ⟨by rfl, ?hyyb17⟩) hHeld ?_
        case hyyb17 => (intro w hSw; (try dsimp only at hSw); go_simp; (try with_reducible rfl))
        try simp only [Act.put, List.setIfInBounds_toArray, List.set_cons_zero, List.set_cons_succ]
        refine wpAnyH_take (i := 18) (oi := { dst := some 51, op := Op.pick (Operand.tmp 41) (Operand.const (Value.bool true)) (Operand.tmp 50), type := 4, pos := "law.go:32", after := #[{ on := 8, ground := Ground.data }, { on := 17, ground := Ground.data }], guard := none }) (v := ?vyb18) rfl (by kernel_rfl) (by kernel_rfl) (by kernel_rfl) (fun _ _ _ h => h) (Or.inl ⟨by rfl, ?hyyb18⟩) hHeld ?_
        case hyyb18 => (intro w hSw; (try dsimp only at hSw); go_simp; (try with_reducible rfl))
        try simp only [Act.put, List.setIfInBounds_toArray, List.set_cons_zero, List.set_cons_succ]
        refine wpAnyH_done (by kernel_rfl) ?_ _
        have HK3 := Lib.hid hK3
        clear hK2 hK3 HK1 HTx HRt hHeld
        have hO := HK3.out.strs.row
        have hm1 : M + 1 ≤ v3.heap.size := lt_of_cell HK3.out.map.1
        go_wp2_with (at_builtin; refine wpList_append_lies _ (by rfl) _ _ _ (by rfl) (M + 1) 9 i9 _ 1 16 Tryd.underlying28 hi9 hz0 hz1 hz2 rfl (by omega) u6 N _ (by rfl) (hO.alloc _) ⟨v3.heap.size, 0, none⟩ 1 1 [.string ⟨tx.toArray⟩] (by rfl) (by rfl) (World.news_of_block (cs := #[.string ⟨tx.toArray⟩]) (t := 9) (fr := (0, 0)) (heap_alloc_new v3 _)) (by simp [Value.oneCell']) (by omega) (by unfold maxLen; omega) (by omega) (by simp; omega) (v3.heap.size + 1) (by simp) ?_; intro gg cap' w2 hown1 hgrow hat hlt2)
        have HS3 := Lib.hid (HK3.out.strs.add _ hgrow hm1 hown1)
        have HX3 := Lib.hid (box_far HK3.out.strs _ hgrow (by omega) HK3.out.box)
        have HM3 := Lib.hid (box_far HK3.out.strs _ hgrow (by omega) HK3.out.map)
        rw [← HRT.out] at HS3
        clear hown1 hgrow hat hlt2 hO HK3 HRT hq hq2
        go_roundw
        case rel => exact ⟨i + 1, N + 1, by go_num, by omega, by omega, HS3, HX3, HM3⟩
        case measure => simp [intOf]; omega
      · rw [decide_eq_false hR] at hRt
        have hnil : T i = [] := by rw [← hTi]; unfold textF; rw [if_neg hR]
        rw [hTi] at hTx hRef
        generalize T i = tx at hTx hRef HRT hnil
        subst hnil
        rw [if_pos rfl] at HRT
        clear hTi hx hy ho hR
        have HRef := Lib.hid hRef; have HTx := Lib.hid hTx; have HRt := Lib.hid hRt
        have HK0 := Lib.hid HK.out.drew
        clear hRef hTx hRt HK
        go_wp2_with fail
        refine wp_region_held_drew (S := (fun w' => w'.cell? ⟨w.heap.size, 0, none⟩ = some (.int .i64 a) ∧ w'.cell? ⟨w.heap.size, 1, none⟩ = some (.int .i64 b) ∧ w'.cell? ⟨w.heap.size, 2, none⟩ = some (.int .i64 c) ∧ w'.cell? ⟨w.heap.size, 3, none⟩ = some (.int .i64 d) ∧ w'.cell? ⟨M, 0, none⟩ = some (.int .i64 a) ∧ w'.cell? ⟨M, 1, none⟩ = some (.int .i64 b) ∧ w'.cell? ⟨M, 2, none⟩ = some (.int .i64 c) ∧ w'.cell? ⟨M, 3, none⟩ = some (.int .i64 d) ∧ w'.cell? ⟨b2, off + i * 5, none⟩ = some (.int .i64 qk) ∧ w'.cell? ⟨b2, off + i * 5 + 1, none⟩ = some (.int .i64 qi) ∧ w'.cell? ⟨b2, off + i * 5 + 2, none⟩ = some (.int .u64 qx) ∧ w'.cell? ⟨b2, off + i * 5 + 3, none⟩ = some (.int .u64 qy) ∧ w'.cell? ⟨b2, off + i * 5 + 4, none⟩ = some (.int .u64 qo))) (by kernel_rfl) ?_ (fun hHeld => ?_)
        · exact HK0.out.held
        refine wpAnyH_take (i := 0) (oi := { dst := some 27, op := Op.load 23 (Operand.tmp 2), type := 23, pos := "law.go:31", after := #[], guard := none }) (v := ?vna0) rfl (by kernel_rfl) (by kernel_rfl) (by kernel_rfl) (fun _ _ _ h => h) (Or.inl ⟨by rfl, ?hyna0⟩) hHeld ?_
        case hyna0 => (intro w hSw; (try dsimp only at hSw); go_simp; (try with_reducible rfl))
        try simp only [Act.put, List.setIfInBounds_toArray, List.set_cons_zero, List.set_cons_succ]
        refine wpAnyH_take (i := 1) (oi := { dst := some 28, op := Op.move (Operand.tmp 1), type := 24, pos := "law.go:31", after := #[], guard := none }) (v := ?vna1) rfl (by kernel_rfl) (by kernel_rfl) (by kernel_rfl) (fun _ _ _ h => h) (Or.inl ⟨by rfl, ?hyna1⟩) hHeld ?_
        case hyna1 => (intro w hSw; (try dsimp only at hSw); go_simp; (try with_reducible rfl))
        try simp only [Act.put, List.setIfInBounds_toArray, List.set_cons_zero, List.set_cons_succ]
        refine wpAnyH_take (i := 2) (oi := { dst := some 29, op := Op.move (Operand.tmp 7), type := 3, pos := "law.go:31", after := #[], guard := none }) (v := ?vna2) rfl (by kernel_rfl) (by kernel_rfl) (by kernel_rfl) (fun _ _ _ h => h) (Or.inl ⟨by rfl, ?hyna2⟩) hHeld ?_
        case hyna2 => (intro w hSw; (try dsimp only at hSw); go_simp; (try with_reducible rfl))
        try simp only [Act.put, List.setIfInBounds_toArray, List.set_cons_zero, List.set_cons_succ]
        refine wpAnyH_take (i := 3) (oi := { dst := some 30, op := Op.indexAddr 24 (Operand.tmp 28) (Operand.tmp 29), type := 0, pos := "law.go:31", after := #[{ on := 1, ground := Ground.data }, { on := 2, ground := Ground.data }], guard := none }) (v := ?vna3) rfl (by kernel_rfl) (by kernel_rfl) (by kernel_rfl) (fun _ _ _ h => h) (Or.inl ⟨by rfl, ?hyna3⟩) hHeld ?_
        case hyna3 => (intro w hSw; (try dsimp only at hSw); go_simp; (try with_reducible rfl))
        try simp only [Act.put, List.setIfInBounds_toArray, List.set_cons_zero, List.set_cons_succ]
        refine wpAnyH_take (i := 4) (oi := { dst := some 31, op := Op.load 33 (Operand.tmp 30), type := 33, pos := "law.go:31", after := #[{ on := 3, ground := Ground.data }], guard := none }) (v := ?vna4) rfl (by kernel_rfl) (by kernel_rfl) (by kernel_rfl) (fun _ _ _ h => h) (Or.inl ⟨by rfl, ?hyna4⟩) hHeld ?_
        case hyna4 => (intro w hSw; (try dsimp only at hSw); go_simp; (try with_reducible rfl))
        try simp only [Act.put, List.setIfInBounds_toArray, List.set_cons_zero, List.set_cons_succ]
        refine wpAnyH_ready (rs := [5]) (by kernel_rfl) (by simp) ?_
        refine AllReadyH.cons (o := { dst := some 32, op := Op.call { callee := Callee.value (Operand.func 7), args := #[Operand.tmp 27, Operand.tmp 31], argTypes := #[23, 33] }, type := 9, pos := "law.go:31", after := #[{ on := 0, ground := Ground.data }, { on := 4, ground := Ground.data }], guard := none }) rfl (fun K hK => ?_) AllReadyH.nil
        go_simp
        refine (HRef.out _).mono ?_
        rintro e v1 ⟨rfl, hV⟩
        have hK1 := Bun.below HK0.out hV
        clear hV hHeld
        try go_wp2_with fail
        refine hK.out _ _ ?_ (fun hHeld => ?_)
        · exact hK1.held
        clear hK K
        try simp only [Act.put, List.setIfInBounds_toArray, List.set_cons_zero, List.set_cons_succ]
        refine wpAnyH_take (i := 6) (oi := { dst := some 8, op := Op.assign (Operand.tmp 32), type := 9, pos := "law.go:31", after := #[{ on := 5, ground := Ground.data }, { on := 5, ground := Ground.chain }, { on := 0, ground := Ground.phase }, { on := 1, ground := Ground.phase }, { on := 2, ground := Ground.phase }, { on := 3, ground := Ground.phase }, { on := 4, ground := Ground.phase }, { on := 5, ground := Ground.phase }], guard := none }) (v := ?vna6) rfl (by kernel_rfl) (by kernel_rfl) (by kernel_rfl) (fun _ _ _ h => h) (Or.inl ⟨by rfl, ?hyna6⟩) hHeld ?_
        case hyna6 => (intro w hSw; (try dsimp only at hSw); go_simp; (try with_reducible rfl))
        try simp only [Act.put, List.setIfInBounds_toArray, List.set_cons_zero, List.set_cons_succ]
        refine wpAnyH_done (by kernel_rfl) ?_ _
        have HK1 := Lib.hid (Bun.drew hK1)
        clear hK1 HK0 HRef hHeld
        go_wp2_with fail
        refine wp_region_held_drew (S := (fun w' => w'.cell? ⟨w.heap.size, 0, none⟩ = some (.int .i64 a) ∧ w'.cell? ⟨w.heap.size, 1, none⟩ = some (.int .i64 b) ∧ w'.cell? ⟨w.heap.size, 2, none⟩ = some (.int .i64 c) ∧ w'.cell? ⟨w.heap.size, 3, none⟩ = some (.int .i64 d) ∧ w'.cell? ⟨M, 0, none⟩ = some (.int .i64 a) ∧ w'.cell? ⟨M, 1, none⟩ = some (.int .i64 b) ∧ w'.cell? ⟨M, 2, none⟩ = some (.int .i64 c) ∧ w'.cell? ⟨M, 3, none⟩ = some (.int .i64 d) ∧ w'.cell? ⟨b2, off + i * 5, none⟩ = some (.int .i64 qk) ∧ w'.cell? ⟨b2, off + i * 5 + 1, none⟩ = some (.int .i64 qi) ∧ w'.cell? ⟨b2, off + i * 5 + 2, none⟩ = some (.int .u64 qx) ∧ w'.cell? ⟨b2, off + i * 5 + 3, none⟩ = some (.int .u64 qy) ∧ w'.cell? ⟨b2, off + i * 5 + 4, none⟩ = some (.int .u64 qo))) (by kernel_rfl) ?_ (fun hHeld => ?_)
        · exact HK1.out.held
        refine wpAnyH_take (i := 0) (oi := { dst := some 33, op := Op.load 27 (Operand.tmp 5), type := 27, pos := "law.go:32", after := #[], guard := none }) (v := ?vnb0) rfl (by kernel_rfl) (by kernel_rfl) (by kernel_rfl) (fun _ _ _ h => h) (Or.inl ⟨by rfl, ?hynb0⟩) hHeld ?_
        case hynb0 => (intro w hSw; (try dsimp only at hSw); go_simp; (try with_reducible rfl))
        try simp only [Act.put, List.setIfInBounds_toArray, List.set_cons_zero, List.set_cons_succ]
        refine wpAnyH_take (i := 1) (oi := { dst := some 34, op := Op.move (Operand.tmp 1), type := 24, pos := "law.go:32", after := #[], guard := none }) (v := ?vnb1) rfl (by kernel_rfl) (by kernel_rfl) (by kernel_rfl) (fun _ _ _ h => h) (Or.inl ⟨by rfl, ?hynb1⟩) hHeld ?_
        case hynb1 => (intro w hSw; (try dsimp only at hSw); go_simp; (try with_reducible rfl))
        try simp only [Act.put, List.setIfInBounds_toArray, List.set_cons_zero, List.set_cons_succ]
        refine wpAnyH_take (i := 2) (oi := { dst := some 35, op := Op.move (Operand.tmp 7), type := 3, pos := "law.go:32", after := #[], guard := none }) (v := ?vnb2) rfl (by kernel_rfl) (by kernel_rfl) (by kernel_rfl) (fun _ _ _ h => h) (Or.inl ⟨by rfl, ?hynb2⟩) hHeld ?_
        case hynb2 => (intro w hSw; (try dsimp only at hSw); go_simp; (try with_reducible rfl))
        try simp only [Act.put, List.setIfInBounds_toArray, List.set_cons_zero, List.set_cons_succ]
        refine wpAnyH_take (i := 3) (oi := { dst := some 36, op := Op.indexAddr 24 (Operand.tmp 34) (Operand.tmp 35), type := 0, pos := "law.go:32", after := #[{ on := 1, ground := Ground.data }, { on := 2, ground := Ground.data }], guard := none }) (v := ?vnb3) rfl (by kernel_rfl) (by kernel_rfl) (by kernel_rfl) (fun _ _ _ h => h) (Or.inl ⟨by rfl, ?hynb3⟩) hHeld ?_
        case hynb3 => (intro w hSw; (try dsimp only at hSw); go_simp; (try with_reducible rfl))
        try simp only [Act.put, List.setIfInBounds_toArray, List.set_cons_zero, List.set_cons_succ]
        refine wpAnyH_take (i := 4) (oi := { dst := some 37, op := Op.load 33 (Operand.tmp 36), type := 33, pos := "law.go:32", after := #[{ on := 3, ground := Ground.data }], guard := none }) (v := ?vnb4) rfl (by kernel_rfl) (by kernel_rfl) (by kernel_rfl) (fun _ _ _ h => h) (Or.inl ⟨by rfl, ?hynb4⟩) hHeld ?_
        case hynb4 => (intro w hSw; (try dsimp only at hSw); go_simp; (try with_reducible rfl))
        try simp only [Act.put, List.setIfInBounds_toArray, List.set_cons_zero, List.set_cons_succ]
        refine wpAnyH_take (i := 6) (oi := { dst := some 39, op := Op.move (Operand.tmp 8), type := 9, pos := "law.go:32", after := #[], guard := none }) (v := ?vnb6) rfl (by kernel_rfl) (by kernel_rfl) (by kernel_rfl) (fun _ _ _ h => h) (Or.inl ⟨by rfl, ?hynb6⟩) hHeld ?_
        case hynb6 => (intro w hSw; (try dsimp only at hSw); go_simp; (try with_reducible rfl))
        try simp only [Act.put, List.setIfInBounds_toArray, List.set_cons_zero, List.set_cons_succ]
        refine wpAnyH_ready (rs := [5]) (by kernel_rfl) (by simp) ?_
        refine AllReadyH.cons (o := { dst := some 38, op := Op.call { callee := Callee.value (Operand.func 8), args := #[Operand.tmp 33, Operand.tmp 37], argTypes := #[27, 33] }, type := 9, pos := "law.go:32", after := #[{ on := 0, ground := Ground.data }, { on := 4, ground := Ground.data }], guard := none }) rfl (fun K hK => ?_) AllReadyH.nil
        go_simp
        refine (HTx.out _ (HL.out.below HK1.out.strs.old)).mono ?_
        rintro e v2 ⟨rfl, hV⟩
        have hK2 := Bun.below HK1.out hV
        clear hV hHeld
        try go_wp2_with fail
        refine hK.out _ _ ?_ (fun hHeld => ?_)
        · exact hK2.held
        clear hK K
        try simp only [Act.put, List.setIfInBounds_toArray, List.set_cons_zero, List.set_cons_succ]
        refine wpAnyH_take (i := 7) (oi := { dst := some 40, op := Op.binOp BinOp.neq 9 (Operand.tmp 38) (Operand.tmp 39) 9, type := 4, pos := "law.go:32", after := #[{ on := 5, ground := Ground.data }, { on := 6, ground := Ground.data }], guard := none }) (v := ?vnb7) rfl (by kernel_rfl) (by kernel_rfl) (by kernel_rfl) (fun _ _ _ h => h) (Or.inl ⟨by rfl, ?hynb7⟩) hHeld ?_
        case hynb7 => (intro w hSw; (try dsimp only at hSw); go_simp; (try with_reducible rfl))
        try simp only [Act.put, List.setIfInBounds_toArray, List.set_cons_zero, List.set_cons_succ]
        refine wpAnyH_take (i := 8) (oi := { dst := some 41, op := Op.move (Operand.tmp 40), type := 4, pos := "law.go:32", after := #[{ on := 7, ground := Ground.data }, { on := 5, ground := Ground.chain }], guard := none }) (v := ?vnb8) rfl (by kernel_rfl) (by kernel_rfl) (by kernel_rfl) (fun _ _ _ h => h) (Or.inl ⟨by rfl, ?hynb8⟩) hHeld ?_
        case hynb8 => (intro w hSw; (try dsimp only at hSw); go_simp; (try with_reducible rfl))
        try simp only [Act.put, List.setIfInBounds_toArray, List.set_cons_zero, List.set_cons_succ]
        refine wpAnyH_take (i := 9) (oi := { dst := some 42, op := Op.load 27 (Operand.tmp 5), type := 27, pos := "law.go:32", after := #[{ on := 8, ground := Ground.guard }], guard := some (8, false) }) (v := ?vnb9) rfl (by kernel_rfl) (by kernel_rfl) (by kernel_rfl) (fun _ _ _ h => h) (Or.inl ⟨by rfl, ?hynb9⟩) hHeld ?_
        case hynb9 => (intro w hSw; (try dsimp only at hSw); go_simp; (try with_reducible rfl))
        try simp only [Act.put, List.setIfInBounds_toArray, List.set_cons_zero, List.set_cons_succ]
        refine wpAnyH_take (i := 10) (oi := { dst := some 43, op := Op.move (Operand.tmp 1), type := 24, pos := "law.go:32", after := #[{ on := 8, ground := Ground.guard }], guard := some (8, false) }) (v := ?vnb10) rfl (by kernel_rfl) (by kernel_rfl) (by kernel_rfl) (fun _ _ _ h => h) (Or.inl ⟨by rfl, ?hynb10⟩) hHeld ?_
        case hynb10 => (intro w hSw; (try dsimp only at hSw); go_simp; (try with_reducible rfl))
        try simp only [Act.put, List.setIfInBounds_toArray, List.set_cons_zero, List.set_cons_succ]
        refine wpAnyH_take (i := 11) (oi := { dst := some 44, op := Op.move (Operand.tmp 7), type := 3, pos := "law.go:32", after := #[{ on := 8, ground := Ground.guard }], guard := some (8, false) }) (v := ?vnb11) rfl (by kernel_rfl) (by kernel_rfl) (by kernel_rfl) (fun _ _ _ h => h) (Or.inl ⟨by rfl, ?hynb11⟩) hHeld ?_
        case hynb11 => (intro w hSw; (try dsimp only at hSw); go_simp; (try with_reducible rfl))
        try simp only [Act.put, List.setIfInBounds_toArray, List.set_cons_zero, List.set_cons_succ]
        refine wpAnyH_take (i := 12) (oi := { dst := some 45, op := Op.indexAddr 24 (Operand.tmp 43) (Operand.tmp 44), type := 0, pos := "law.go:32", after := #[{ on := 10, ground := Ground.data }, { on := 11, ground := Ground.data }, { on := 8, ground := Ground.guard }], guard := some (8, false) }) (v := ?vnb12) rfl (by kernel_rfl) (by kernel_rfl) (by kernel_rfl) (fun _ _ _ h => h) (Or.inl ⟨by rfl, ?hynb12⟩) hHeld ?_
        case hynb12 => (intro w hSw; (try dsimp only at hSw); go_simp; (try with_reducible rfl))
        try simp only [Act.put, List.setIfInBounds_toArray, List.set_cons_zero, List.set_cons_succ]
        refine wpAnyH_take (i := 13) (oi := { dst := some 46, op := Op.load 33 (Operand.tmp 45), type := 33, pos := "law.go:32", after := #[{ on := 12, ground := Ground.data }, { on := 8, ground := Ground.guard }], guard := some (8, false) }) (v := ?vnb13) rfl (by kernel_rfl) (by kernel_rfl) (by kernel_rfl) (fun _ _ _ h => h) (Or.inl ⟨by rfl, ?hynb13⟩) hHeld ?_
        case hynb13 => (intro w hSw; (try dsimp only at hSw); go_simp; (try with_reducible rfl))
        try simp only [Act.put, List.setIfInBounds_toArray, List.set_cons_zero, List.set_cons_succ]
        refine wpAnyH_take (i := 15) (oi := { dst := some 48, op := Op.move (Operand.tmp 8), type := 9, pos := "law.go:32", after := #[{ on := 8, ground := Ground.guard }], guard := some (8, false) }) (v := ?vnb15) rfl (by kernel_rfl) (by kernel_rfl) (by kernel_rfl) (fun _ _ _ h => h) (Or.inl ⟨by rfl, ?hynb15⟩) hHeld ?_
        case hynb15 => (intro w hSw; (try dsimp only at hSw); go_simp; (try with_reducible rfl))
        try simp only [Act.put, List.setIfInBounds_toArray, List.set_cons_zero, List.set_cons_succ]
        refine wpAnyH_take (i := 16) (oi := { dst := some 49, op := Op.binOp BinOp.neq 9 (Operand.tmp 48) (Operand.const (Value.string { data := #[] })) 9, type := 4, pos := "law.go:32", after := #[{ on := 15, ground := Ground.data }, { on := 8, ground := Ground.guard }], guard := some (8, false) }) (v := ?vnb16) rfl (by kernel_rfl) (by kernel_rfl) (by kernel_rfl) (fun _ _ _ h => h) (Or.inl ⟨by rfl, ?hynb16⟩) hHeld ?_
        case hynb16 => (intro w hSw; (try dsimp only at hSw); go_simp; (try with_reducible rfl))
        try simp only [Act.put, List.setIfInBounds_toArray, List.set_cons_zero, List.set_cons_succ]
        refine wpAnyH_ready (rs := [14]) (by kernel_rfl) (by simp) ?_
        refine AllReadyH.cons (o := { dst := some 47, op := Op.call { callee := Callee.value (Operand.func 9), args := #[Operand.tmp 42, Operand.tmp 46], argTypes := #[27, 33] }, type := 4, pos := "law.go:32", after := #[{ on := 9, ground := Ground.data }, { on := 13, ground := Ground.data }, { on := 8, ground := Ground.chain }, { on := 8, ground := Ground.guard }], guard := some (8, false) }) rfl (fun K hK => ?_) AllReadyH.nil
        go_simp
        refine (HRt.out _ (HL.out.below hK2.strs.old).base.spans).mono ?_
        rintro e v3 ⟨rfl, hV⟩
        have hK3 := Bun.below hK2 hV
        clear hV hHeld
        try go_wp2_with fail
        refine hK.out _ _ ?_ (fun hHeld => ?_)
        · exact hK3.held
        clear hK K
        try simp only [Act.put, List.setIfInBounds_toArray, List.set_cons_zero, List.set_cons_succ]
        refine wpAnyH_take (i := 17) (oi := { dst := some 50, op := Op.binOp BinOp.neq 4 (Operand.tmp 47) (Operand.tmp 49) 4, type := 4, pos := "law.go:32", after := #[{ on := 14, ground := Ground.data }, { on := 16, ground := Ground.data }, { on := 8, ground := Ground.guard }], guard := some (8, false) }) (v := ?vnb17) rfl (by kernel_rfl) (by kernel_rfl) (by kernel_rfl) (fun _ _ _ h => h) (Or.inl ⟨by rfl, ?hynb17⟩) hHeld ?_
        case hynb17 => (intro w hSw; (try dsimp only at hSw); go_simp; (try with_reducible rfl))
        try simp only [Act.put, List.setIfInBounds_toArray, List.set_cons_zero, List.set_cons_succ]
        refine wpAnyH_take (i := 18) (oi := { dst := some 51, op := Op.pick (Operand.tmp 41) (Operand.const (Value.bool true)) (Operand.tmp 50), type := 4, pos := "law.go:32", after := #[{ on := 8, ground := Ground.data }, { on := 17, ground := Ground.data }], guard := none }) (v := ?vnb18) rfl (by kernel_rfl) (by kernel_rfl) (by kernel_rfl) (fun _ _ _ h => h) (Or.inl ⟨by rfl, ?hynb18⟩) hHeld ?_
        case hynb18 => (intro w hSw; (try dsimp only at hSw); go_simp; (try with_reducible rfl))
        try simp only [Act.put, List.setIfInBounds_toArray, List.set_cons_zero, List.set_cons_succ]
        refine wpAnyH_done (by kernel_rfl) ?_ _
        have HK3 := Lib.hid hK3
        clear hK2 hK3 HK1 HTx HRt hHeld
        have HS3 := Lib.hid HK3.out.strs
        have HX3 := Lib.hid HK3.out.box
        have HM3 := Lib.hid HK3.out.map
        rw [← HRT.out] at HS3
        clear HK3 HRT
        go_wp2_with fail
        go_roundw
        case rel => exact ⟨i + 1, N, by go_num, by omega, by omega, HS3, HX3, HM3⟩
        case measure => simp [intOf]; omega
    · obtain rfl : i = n := by omega
      obtain ⟨m0, m1, m2, m3⟩ := HM.out
      have HR2 := Lib.hid (HR.out wr (HL.out.below HS.out.old) (HA.out.below HS.out.old))
      clear HX HR
      go_wp2_with fail
      refine HR2.out.mono ?_
      rintro e W5 ⟨v, rfl, hv, hW⟩
      have HTs := Lib.hid (Texts_c (rowsT T i) (by have := HTl.out; omega) v u6 W5 hv (HS.out.strs.below hW))
      have HB5 := Lib.hid (belowOn HS.out.old hW)
      clear hv hW HR2 m0 m1 m2 m3 HS HM
      go_wp2_with fail
      refine HTs.out.mono ?_
      rintro e W6 ⟨rfl, hW⟩
      have HB6 := Lib.hid (belowOn HB5.out hW)
      clear hW
      go_wp2_with fail
      go_ret
      exact ⟨rfl, HB6.out⟩
theorem accessTexts_c (a b c d : Int) (ad : Option Addr) (n cap : Nat) (g : Nat → Acc) (hok : ∀ j, j < n → (g j).ok) (w : World) (hL : Laid6 w) (hA : AccsAt w ad n g) (hmax : n ≤ 9223372036854775807) :
    Calls Tryd.prog 3 #[.agg #[.int .i64 a, .int .i64 b, .int .i64 c, .int .i64 d], .slice ad n cap] w fun e w' => e = .returned (.bool true) ∧ Below w.heap.size w w' := by
  by_cases hn : n ≤ 40
  · by_cases hbig : 30 < a
    · exact texts_big a b c d ad n cap hn hbig w hL
    · exact texts_short a b c d ad n cap g hn hbig hok w hL hA
  · exact texts_long a b c d ad n cap (by omega) w hL
end Go.Proofs.YtdhejdehlomppaaDoor
