/- LispAlone answers true: operations by themselves end, each with one linearising step, and come to what the ideal store makes of them. -/
import Derived.Test.YtbpkdihonemogaaGreatDoorM13
import Derived.Test.YtbpkdihonemogaaGreatDoorM4
import Derived.Test.YtbpkdihonemogaaGreatDoorHandNew
namespace Go.Proofs.YtbpkdihonemogaaGreatDoor
open Go Go.RowKit
set_option maxRecDepth 100000
attribute [local go_sem ↓] Go.wp_at_zero Go.wp_at_succ

theorem load_at {A G n : Nat} {f : Nat → Int} {w : World} (hA : ArenaAt w A G n f) (P : Int) (h0 : 0 ≤ P) (h1 : P < n) :
    Calls Tryz.prog 23 #[.pointer (some ⟨A, 0, none⟩), .int .i64 P] w fun e w' => e = .returned (.int .u64 (f P.toNat)) ∧ w = w' := by
  have := Load_in hA P.toNat (by omega)
  rw [show ((P.toNat : Nat) : Int) = P by omega] at this
  exact this
theorem car_at {C : Cf} {f : Nat → Int} {σ : St} {q : Nat} (h : LMem C f σ q) {i : Nat} (hi : i < σ.n) : f (partP C.a C.b C.c C.d 0 (i : Int)).toNat = σ.g 2 i 0 := h.car i hi
set_option maxHeartbeats 12800000 in
theorem lalone_any (a b c d : Int) (vm : Option Addr) (nm cm : Nat) (fb : Nat → Nat) (vo : Option Addr) (no co : Nat) (g : Nat → Op4) (w : World) (hS : SpansAt w) (hR : RowsAt w) (hB : GivenB w vm nm fb) (hO : GivenOps w vo no g) :
    Calls Tryz.prog 4 #[.agg #[.int .i64 a, .int .i64 b, .int .i64 c, .int .i64 d], .slice vm nm cm, .slice vo no co] w fun e w' => e = .returned (.bool true) ∧ Below w.heap.size w w' := by
  have HB0 := Lib.hid (below_new w (.cells #[.int .i64 a, .int .i64 b, .int .i64 c, .int .i64 d] 39))
  have HX0 := Lib.hid (BoxAt.new w a b c d 39)
  have HS := Lib.hid hS; have HRw := Lib.hid hR; have HGB := Lib.hid hB; have HGO := Lib.hid hO
  clear hS hR hB hO
  obtain ⟨x0, x1, x2, x3⟩ := HX0.out
  go_enter Tryz.func4, Tryz.ntmps4
  go_wp2_with fail
  refine (awake_c _ (HS.out.below HB0.out)).mono ?_
  rintro e W1 ⟨rfl, hW⟩
  have HB1 := Lib.hid (belowOn HB0.out hW)
  have HX1 := Lib.hid (HX0.out.below hW)
  clear hW HB0 HX0 x0 x1 x2 x3
  obtain ⟨x0, x1, x2, x3⟩ := HX1.out
  go_wp2_with fail
  by_cases hg : grt a b c d
  · refine (great_yes a b c d hg _).mono ?_
    rintro e W2 ⟨rfl, hW⟩
    have HB2 := Lib.hid (belowOn HB1.out hW)
    clear hW HB1 HX1 x0 x1 x2 x3 hg
    go_wp2_with fail
    go_ret
    exact ⟨rfl, HB2.out⟩
  refine (great_no a b c d hg _).mono ?_
  rintro e W2 ⟨rfl, hW⟩
  have HB2 := Lib.hid (belowOn HB1.out hW)
  have HX2 := Lib.hid (HX1.out.below hW)
  clear hW HB1 HX1 x0 x1 x2 x3
  obtain ⟨x0, x1, x2, x3⟩ := HX2.out
  go_wp2_with fail
  by_cases hr' : ¬ Right a b c d
  · refine (refRight_wrong a b c d hr' _).mono ?_
    rintro e W3 ⟨rfl, hW⟩
    have HB3 := Lib.hid (belowOn HB2.out hW)
    clear hW HB2 HX2 x0 x1 x2 x3 hg hr'
    go_wp2_with fail
    go_ret
    exact ⟨rfl, HB3.out⟩
  have hr := Classical.not_not.1 hr'
  clear hr'
  refine (refRight_right a b c d hr _).mono ?_
  rintro e W3 ⟨rfl, hW⟩
  have HB3 := Lib.hid (belowOn HB2.out hW)
  have HX3 := Lib.hid (HX2.out.below hW)
  clear hW HB2 HX2 x0 x1 x2 x3
  by_cases h30 : (30 : Int) < (no : Int)
  · clear hg hr
    go_wp2_with fail
    go_ret
    exact ⟨rfl, HB3.out⟩
  by_cases hnm : (nm : Int) < (no : Int)
  · clear hg hr
    go_wp2_with fail
    go_ret
    exact ⟨rfl, HB3.out⟩
  obtain ⟨b, rfl⟩ : ∃ k : Nat, b = k := ⟨b.toNat, by unfold Right at hr; omega⟩
  obtain ⟨c, rfl⟩ : ∃ k : Nat, c = k := ⟨c.toNat, by unfold Right at hr; omega⟩
  obtain ⟨d, rfl⟩ : ∃ k : Nat, d = k := ⟨d.toNat, by unfold Right at hr; omega⟩
  have hbc : (2 ≤ a ∧ a ≤ 30) ∧ (1 ≤ b ∧ b ≤ 12) ∧ (1 ≤ c ∧ c ≤ 8) ∧ d ≤ 8 := by unfold grt at hg; unfold Right at hr; omega
  clear hg
  have hr2 : Right 2 b c d := by unfold Right at hr ⊢; omega
  have hno30 : no ≤ 30 := by omega
  have hnmo : no ≤ nm := by omega
  have HHN : Hid (∀ W, SpansAt W → _) := Lib.hid (fun W h => New_yes a b c d hr W h)
  have HIN : Hid (∀ W, SpansAt W → _) := Lib.hid (fun W h => Il.New_yes b c d hr2 W h)
  have HRt := Lib.hid hr
  clear hr hr2
  obtain ⟨x0, x1, x2, x3⟩ := HX3.out
  go_wp2_with fail
  clear h30 hnm
  refine (HHN.out _ (HS.out.below HB3.out)).mono ?_
  rintro e W4 ⟨n, hn, H, A, G, rfl, hF, hb, l1, l2, l3⟩
  have HB4 := Lib.hid (belowOn HB3.out hb)
  have HX4 := Lib.hid (HX3.out.below hb)
  have HF4 := Lib.hid hF
  have hC := Lib.hid (show CfOK ⟨n, a, b, c, d⟩ from ⟨HRt.out, hn⟩)
  have hsz := lt_of_cell x0
  clear hF hb HHN HB3 HX3 x0 x1 x2 x3
  obtain ⟨x0, x1, x2, x3⟩ := HX4.out
  go_wp2_with fail
  refine (HIN.out _ (HS.out.below HB4.out)).mono ?_
  rintro e W5 ⟨X, R, L, rfl, hSt, m1, m2, m3, hb⟩
  have hH4 := HF4.out.lt; have hA4 := HF4.out.ar.lt; have hG4 := HF4.out.ar.row.lt
  have hs4 := lt_of_cell x0
  have HM5 : Hid (AlM w W5 H A G X R L (.slice none 0 0) n a b c d ⟨fstV a b c d, 0, 0, 0, 0, 0⟩ ⟨fun _ _ _ => 0, 0⟩) := Lib.hid ⟨belowOn HB4.out hb, HX4.out.below hb, HF4.out.below hb, hSt, ⟨by omega, by omega⟩, ⟨by omega, by omega, by omega, fun k e => (by cases e)⟩, fun k hk => (by rcases hk with e | e | e | e <;> first | (exact ⟨by omega, by omega, by omega⟩) | (cases e))⟩
  have HP5 : Hid (AlP ⟨n, a, b, c, d⟩ ⟨fstV a b c d, 0, 0, 0, 0, 0⟩ ⟨fun _ _ _ => 0, 0⟩) := Lib.hid (AlP.first hC.out)
  clear hSt m1 m2 m3 hb hH4 hA4 hG4 hs4 hsz l1 l2 l3 HB4 HX4 HF4 HIN x0 x1 x2 x3 hn
  go_wp2_with fail
  go_loopw [11] (fun vi wr => ∃ (i : Nat) (v : Value) (s : Dy) (σ : St), vi = .int .i64 i ∧ i ≤ no ∧ Hid (AlM w wr H A G X R L v n a b c d s σ) ∧ Hid (AlP ⟨n, a, b, c, d⟩ s σ ∧ σ.n ≤ i)) (fun vi _ => no - (intOf vi).toNat)
  case atStart => exact ⟨0, _, _, _, rfl, by omega, HM5, Lib.hid ⟨HP5.out, Nat.le_refl _⟩⟩
  case round =>
    clear HM5 HP5
    obtain ⟨i, v, s, σ, rfl, hi, HM, HP⟩ := hrel
    by_cases hlt : i < no
    · have hi0 : (0 : Int) ≤ (i : Int) := by omega
      have hin : (i : Int) < (no : Int) := by omega
      have hinm : (i : Int) < (nm : Int) := by omega
      have hltm : i < nm := by omega
      obtain ⟨qk, qx, qy, qz⟩ := HGO.out.2.2 i hlt
      obtain ⟨bo, oo, rfl, _, hq⟩ : ∃ bo oo, vo = some ⟨bo, oo, none⟩ ∧ bo < wr.heap.size ∧ ∀ j, j < no → _ := by
        rcases (HGO.out.2.1.below HM.out.old) with h | h
        · omega
        · exact h
      obtain ⟨q0, q1, q2, q3⟩ := hq i hlt
      have HOp : Hid (OpsIn w (some ⟨bo, oo, none⟩) no g) := Lib.hid HGO.out.2.1
      have hGe : Hid (∀ W, Below w.heap.size w W → W.cell? ⟨bo, oo + i * 4, none⟩ = some (.int .i64 (g i).k) ∧ W.cell? ⟨bo, oo + i * 4 + 1, none⟩ = some (.int .i64 (g i).x) ∧ W.cell? ⟨bo, oo + i * 4 + 2, none⟩ = some (.int .i64 (g i).y) ∧ W.cell? ⟨bo, oo + i * 4 + 3, none⟩ = some (.int .i64 (g i).z)) := Lib.hid (fun W hb => by
        rcases (HOp.out.below hb) with h | ⟨b', o', e, _, h⟩
        · omega
        · obtain ⟨rfl, rfl⟩ : bo = b' ∧ oo = o' := by simpa using e
          exact h i hlt)
      generalize hgi : g i = o at *
      obtain ⟨ok, ox, oy, oz⟩ := o
      dsimp only at qk qx qy qz q0 q1 q2 q3 hGe
      clear hq HOp hgi
      have HCk := Lib.hid (fun W => refCheck_c a b c d ok ox oy oz qx qy qz W)
      have HOK : Hid (checkF a b c d ok ox oy oz = 0 → ∀ m : Int, 0 ≤ m ∧ m < b → goodOp b c d m ok ox oy oz) := Lib.hid (fun h m hm => good_of HRt.out h hm)
      have HOY := Lib.hid qy.2
      generalize checkF a b c d ok ox oy oz = ck at *
      obtain ⟨x0, x1, x2, x3⟩ := HM.out.box
      clear qk qx qy qz
      go_wp2_with fail
      refine wp_region_held_drew (S := (fun w' => w'.cell? ⟨w.heap.size, 0, none⟩ = some (.int .i64 a) ∧ w'.cell? ⟨w.heap.size, 1, none⟩ = some (.int .i64 (b : Int)) ∧ w'.cell? ⟨w.heap.size, 2, none⟩ = some (.int .i64 (c : Int)) ∧ w'.cell? ⟨w.heap.size, 3, none⟩ = some (.int .i64 (d : Int)) ∧ w'.cell? ⟨bo, oo + i * 4, none⟩ = some (.int .i64 ok) ∧ w'.cell? ⟨bo, oo + i * 4 + 1, none⟩ = some (.int .i64 ox) ∧ w'.cell? ⟨bo, oo + i * 4 + 2, none⟩ = some (.int .i64 oy) ∧ w'.cell? ⟨bo, oo + i * 4 + 3, none⟩ = some (.int .i64 oz))) (by kernel_rfl) ?_ (fun hHeld => ?_)
      · exact ⟨x0, x1, x2, x3, q0, q1, q2, q3⟩
      refine wpAnyH_take (i := 0) (oi := { dst := some 78, op := Op.load 39 (Operand.tmp 3), type := 39, pos := "law.go:99", after := #[], guard := none }) (v := ?vq0) rfl (by kernel_rfl) (by kernel_rfl) (by kernel_rfl) (fun _ _ _ h => h) (Or.inl ⟨by rfl, ?hyq0⟩) hHeld ?_
      case hyq0 => (intro w hSw; (try dsimp only at hSw); go_simp; (try with_reducible rfl))
      try simp only [Act.put, List.setIfInBounds_toArray, List.set_cons_zero, List.set_cons_succ]
      refine wpAnyH_take (i := 1) (oi := { dst := some 79, op := Op.move (Operand.tmp 2), type := 41, pos := "law.go:99", after := #[], guard := none }) (v := ?vq1) rfl (by kernel_rfl) (by kernel_rfl) (by kernel_rfl) (fun _ _ _ h => h) (Or.inl ⟨by rfl, ?hyq1⟩) hHeld ?_
      case hyq1 => (intro w hSw; (try dsimp only at hSw); go_simp; (try with_reducible rfl))
      try simp only [Act.put, List.setIfInBounds_toArray, List.set_cons_zero, List.set_cons_succ]
      refine wpAnyH_take (i := 2) (oi := { dst := some 80, op := Op.move (Operand.tmp 11), type := 3, pos := "law.go:99", after := #[], guard := none }) (v := ?vq2) rfl (by kernel_rfl) (by kernel_rfl) (by kernel_rfl) (fun _ _ _ h => h) (Or.inl ⟨by rfl, ?hyq2⟩) hHeld ?_
      case hyq2 => (intro w hSw; (try dsimp only at hSw); go_simp; (try with_reducible rfl))
      try simp only [Act.put, List.setIfInBounds_toArray, List.set_cons_zero, List.set_cons_succ]
      refine wpAnyH_take (i := 3) (oi := { dst := some 81, op := Op.indexAddr 41 (Operand.tmp 79) (Operand.tmp 80), type := 0, pos := "law.go:99", after := #[{ on := 1, ground := Ground.data }, { on := 2, ground := Ground.data }], guard := none }) (v := ?vq3) rfl (by kernel_rfl) (by kernel_rfl) (by kernel_rfl) (fun _ _ _ h => h) (Or.inl ⟨by rfl, ?hyq3⟩) hHeld ?_
      case hyq3 => (intro w hSw; (try dsimp only at hSw); go_simp; (try with_reducible rfl))
      try simp only [Act.put, List.setIfInBounds_toArray, List.set_cons_zero, List.set_cons_succ]
      refine wpAnyH_take (i := 4) (oi := { dst := some 82, op := Op.load 26 (Operand.tmp 81), type := 26, pos := "law.go:99", after := #[{ on := 3, ground := Ground.data }], guard := none }) (v := ?vq4) rfl (by kernel_rfl) (by kernel_rfl) (by kernel_rfl) (fun _ _ _ h => h) (Or.inl ⟨by rfl, ?hyq4⟩) hHeld ?_
      case hyq4 => (intro w hSw; (try dsimp only at hSw); go_simp; (try with_reducible rfl))
      try simp only [Act.put, List.setIfInBounds_toArray, List.set_cons_zero, List.set_cons_succ]
      refine wpAnyH_ready (rs := [5]) (by kernel_rfl) (by simp) ?_
      refine AllReadyH.cons (o := { dst := some 83, op := Op.call { callee := Callee.value (Operand.func 18), args := #[Operand.tmp 78, Operand.tmp 82], argTypes := #[39, 26] }, type := 3, pos := "law.go:99", after := #[{ on := 0, ground := Ground.data }, { on := 4, ground := Ground.data }], guard := none }) rfl (fun K hK => ?_) AllReadyH.nil
      go_simp
      have HM0 := Lib.hid HM.out.drew
      refine (HCk.out _).mono ?_
      rintro e V1 ⟨rfl, hb⟩
      have HM1 := Lib.hid (HM0.out.below hb)
      clear hb HM HM0 HCk hHeld x0 x1 x2 x3 q0 q1 q2 q3
      obtain ⟨x0, x1, x2, x3⟩ := HM1.out.box
      obtain ⟨q0, q1, q2, q3⟩ := hGe.out _ HM1.out.old
      refine hK.out _ _ ?_ (fun hHeld => ?_)
      · exact ⟨x0, x1, x2, x3, q0, q1, q2, q3⟩
      clear hK K
      try simp only [Act.put, List.setIfInBounds_toArray, List.set_cons_zero, List.set_cons_succ]
      refine wpAnyH_take (i := 6) (oi := { dst := some 84, op := Op.binOp BinOp.neq 3 (Operand.tmp 83) (Operand.const (Value.int IntKind.i64 0)) 3, type := 4, pos := "law.go:99", after := #[{ on := 5, ground := Ground.data }], guard := none }) (v := ?vq6) rfl (by kernel_rfl) (by kernel_rfl) (by kernel_rfl) (fun _ _ _ h => h) (Or.inl ⟨by rfl, ?hyq6⟩) hHeld ?_
      case hyq6 => (intro w hSw; (try dsimp only at hSw); go_simp; (try with_reducible rfl))
      try simp only [Act.put, List.setIfInBounds_toArray, List.set_cons_zero, List.set_cons_succ]
      refine wpAnyH_done (by kernel_rfl) ?_ _
      clear hHeld q0 q1 q2 q3
      by_cases hck' : ¬ ck = 0
      · have hc0 : (ck != 0) = true := by simpa using hck'
        clear hck' x0 x1 x2 x3
        go_wp2_with fail
        go_roundw
        case rel => exact ⟨i + 1, v, s, σ, by go_num, by omega, HM1, Lib.hid ⟨HP.out.1, by have := HP.out.2; omega⟩⟩
        case measure => simp [intOf]; omega
      have hck := Classical.not_not.1 hck'
      clear hck'
      have HGd := Lib.hid (HOK.out hck)
      subst hck
      clear HOK
      obtain ⟨bm, om, rfl, _, hqm⟩ : ∃ bm om, vm = some ⟨bm, om, none⟩ ∧ bm < V1.heap.size ∧ ∀ j, j < nm → _ := by
        rcases (HGB.out.2.1.below HM1.out.old) with h | h
        · omega
        · exact h
      have q0 := hqm i hltm
      have hpb := HGB.out.2.2 i
      generalize fb i = p at *
      clear hqm
      have hb1 : ¬ b = 0 := by omega
      have hwp : IntKind.i64.wrap (p : Int) = (p : Int) := IntWalk.i64_in _ (by omega)
      obtain ⟨mm, hmm⟩ : ∃ mm : Nat, p % b = mm := ⟨_, rfl⟩
      have hmb : mm < b := by rw [← hmm]; exact Nat.mod_lt _ (by omega)
      have htm : ((p : Int)).tmod (b : Int) = (mm : Int) := by rw [← hmm]; rfl
      clear hmm hpb
      go_wp2_with fail
      refine wp_region_held_drew (S := (fun w' => w'.cell? ⟨bm, om + i, none⟩ = some (.int .u8 (p : Int)) ∧ w'.cell? ⟨w.heap.size, 1, none⟩ = some (.int .i64 (b : Int)))) (by kernel_rfl) ?_ (fun hHeld => ?_)
      · exact ⟨q0, x1⟩
      refine wpAnyH_take (i := 0) (oi := { dst := some 85, op := Op.move (Operand.tmp 1), type := 40, pos := "law.go:102", after := #[], guard := none }) (v := ?vr0) rfl (by kernel_rfl) (by kernel_rfl) (by kernel_rfl) (fun _ _ _ h => h) (Or.inl ⟨by rfl, ?hyr0⟩) hHeld ?_
      case hyr0 => (intro w hSw; (try dsimp only at hSw); go_simp; (try with_reducible rfl))
      try simp only [Act.put, List.setIfInBounds_toArray, List.set_cons_zero, List.set_cons_succ]
      refine wpAnyH_take (i := 1) (oi := { dst := some 86, op := Op.move (Operand.tmp 11), type := 3, pos := "law.go:102", after := #[], guard := none }) (v := ?vr1) rfl (by kernel_rfl) (by kernel_rfl) (by kernel_rfl) (fun _ _ _ h => h) (Or.inl ⟨by rfl, ?hyr1⟩) hHeld ?_
      case hyr1 => (intro w hSw; (try dsimp only at hSw); go_simp; (try with_reducible rfl))
      try simp only [Act.put, List.setIfInBounds_toArray, List.set_cons_zero, List.set_cons_succ]
      refine wpAnyH_take (i := 2) (oi := { dst := some 87, op := Op.indexAddr 40 (Operand.tmp 85) (Operand.tmp 86), type := 0, pos := "law.go:102", after := #[{ on := 0, ground := Ground.data }, { on := 1, ground := Ground.data }], guard := none }) (v := ?vr2) rfl (by kernel_rfl) (by kernel_rfl) (by kernel_rfl) (fun _ _ _ h => h) (Or.inl ⟨by rfl, ?hyr2⟩) hHeld ?_
      case hyr2 => (intro w hSw; (try dsimp only at hSw); go_simp; (try with_reducible rfl))
      try simp only [Act.put, List.setIfInBounds_toArray, List.set_cons_zero, List.set_cons_succ]
      refine wpAnyH_take (i := 3) (oi := { dst := some 88, op := Op.load 5 (Operand.tmp 87), type := 5, pos := "law.go:102", after := #[{ on := 2, ground := Ground.data }], guard := none }) (v := ?vr3) rfl (by kernel_rfl) (by kernel_rfl) (by kernel_rfl) (fun _ _ _ h => h) (Or.inl ⟨by rfl, ?hyr3⟩) hHeld ?_
      case hyr3 => (intro w hSw; (try dsimp only at hSw); go_simp; (try with_reducible rfl))
      try simp only [Act.put, List.setIfInBounds_toArray, List.set_cons_zero, List.set_cons_succ]
      refine wpAnyH_take (i := 4) (oi := { dst := some 89, op := Op.convert 5 3 (Operand.tmp 88), type := 3, pos := "law.go:102", after := #[{ on := 3, ground := Ground.data }], guard := none }) (v := ?vr4) rfl (by kernel_rfl) (by kernel_rfl) (by kernel_rfl) (fun _ _ _ h => h) (Or.inl ⟨by rfl, ?hyr4⟩) hHeld ?_
      case hyr4 => (intro w hSw; (try dsimp only at hSw); go_simp; (try with_reducible rfl))
      try simp only [Act.put, List.setIfInBounds_toArray, List.set_cons_zero, List.set_cons_succ]
      refine wpAnyH_take (i := 5) (oi := { dst := some 90, op := Op.fieldAddr 39 (Operand.tmp 3) 1, type := 0, pos := "law.go:102", after := #[], guard := none }) (v := ?vr5) rfl (by kernel_rfl) (by kernel_rfl) (by kernel_rfl) (fun _ _ _ h => h) (Or.inl ⟨by rfl, ?hyr5⟩) hHeld ?_
      case hyr5 => (intro w hSw; (try dsimp only at hSw); go_simp; (try with_reducible rfl))
      try simp only [Act.put, List.setIfInBounds_toArray, List.set_cons_zero, List.set_cons_succ]
      refine wpAnyH_take (i := 6) (oi := { dst := some 91, op := Op.load 3 (Operand.tmp 90), type := 3, pos := "law.go:102", after := #[{ on := 5, ground := Ground.data }], guard := none }) (v := ?vr6) rfl (by kernel_rfl) (by kernel_rfl) (by kernel_rfl) (fun _ _ _ h => h) (Or.inl ⟨by rfl, ?hyr6⟩) hHeld ?_
      case hyr6 => (intro w hSw; (try dsimp only at hSw); go_simp; (try with_reducible rfl))
      try simp only [Act.put, List.setIfInBounds_toArray, List.set_cons_zero, List.set_cons_succ]
      refine wpAnyH_take (i := 7) (oi := { dst := some 92, op := Op.binOp BinOp.rem 3 (Operand.tmp 89) (Operand.tmp 91) 3, type := 3, pos := "law.go:102", after := #[{ on := 4, ground := Ground.data }, { on := 6, ground := Ground.data }], guard := none }) (v := ?vr7) rfl (by kernel_rfl) (by kernel_rfl) (by kernel_rfl) (fun _ _ _ h => h) (Or.inl ⟨by rfl, ?hyr7⟩) hHeld ?_
      case hyr7 => (intro w hSw; (try dsimp only at hSw); go_simp; (try with_reducible rfl))
      try simp only [Act.put, List.setIfInBounds_toArray, List.set_cons_zero, List.set_cons_succ]
      refine wpAnyH_take (i := 8) (oi := { dst := some 12, op := Op.assign (Operand.tmp 92), type := 3, pos := "law.go:102", after := #[{ on := 7, ground := Ground.data }, { on := 0, ground := Ground.phase }, { on := 1, ground := Ground.phase }, { on := 2, ground := Ground.phase }, { on := 3, ground := Ground.phase }, { on := 4, ground := Ground.phase }, { on := 5, ground := Ground.phase }, { on := 6, ground := Ground.phase }, { on := 7, ground := Ground.phase }], guard := none }) (v := ?vr8) rfl (by kernel_rfl) (by kernel_rfl) (by kernel_rfl) (fun _ _ _ h => h) (Or.inl ⟨by rfl, ?hyr8⟩) hHeld ?_
      case hyr8 => (intro w hSw; (try dsimp only at hSw); go_simp; (try with_reducible rfl))
      try simp only [Act.put, List.setIfInBounds_toArray, List.set_cons_zero, List.set_cons_succ]
      refine wpAnyH_done (by kernel_rfl) ?_ _
      clear hHeld htm hwp hb1 q0 x0 x1 x2 x3
      have HM2 := Lib.hid HM1.out.drew
      clear HM1
      generalize V1.drew = V2 at *
      obtain ⟨q0, q1, q2, q3⟩ := hGe.out _ HM2.out.old
      have HBg := Lib.hid (gBegin_c ok ox oy oz)
      go_wp2_with fail
      refine (HBg.out _).mono ?_
      rintro e V3 ⟨rfl, hb⟩
      have HT3 := Lib.hid ((HM2.out.below hb).mu (⟨1, ok, ox, oy, oz, 0, 0, 0, 0, 0, 0, 0, 0⟩ : Mu))
      clear hb HM2 HBg q0 q1 q2 q3
      obtain ⟨fE, xE, hIn, hQ⟩ := HP.out.1.op hC.out HT3.out.al.store.inv (HGd.out mm ⟨by omega, by omega⟩) HOY.out
      have HI3 := Lib.hid hIn; have HQ := Lib.hid hQ; have hmmI : (0 : Int) ≤ (mm : Int) ∧ (mm : Int) < (b : Int) := ⟨by omega, by omega⟩
      clear hIn hQ
      go_wp2_with fail
      generalize V3.alloc (.cells #[.int .i64 1, .int .i64 ok, .int .i64 ox, .int .i64 oy, .int .i64 oz, .int .u64 0, .int .u64 0, .int .u64 0, .int .u64 0, .int .u64 0, .int .u64 0, .int .i64 0, .int .i64 0] 30) = V4 at *
      generalize V3.heap.size = B at *
      go_loopw [14, 15, 16] (fun vl vd vn wr => ∃ (k : Nat) (l : Int) (s' : Dy) (x : Mu) (dn : Bool), vn = .int .i64 k ∧ vl = .int .i64 l ∧ vd = .bool dn ∧ k ≤ 40 ∧ Hid (AlT w wr H A G X R L v n a b c d s' σ B x) ∧ Hid (InSt ⟨n, a, b, c, d⟩ mm fE xE k l s' x dn)) (fun _ _ vn _ => 40 - (intOf vn).toNat)
      case atStart => exact ⟨0, 0, s, _, false, rfl, rfl, rfl, by omega, HT3, HI3⟩
      case round =>
        clear HT3 HI3
        obtain ⟨k, l, s', x, dn, rfl, rfl, rfl, hk, HT, HI⟩ := hrel
        cases dn
        · obtain ⟨hk40, s2, x2, bo, d2, hstep, hst⟩ := HI.out.go
          have hsm := HI.out.sm; have hq1 := HI.out.q1; unfold smM at hsm
          have hL := lisp_c (C := ⟨n, a, b, c, d⟩) HT.out.al.hand hC.out.pos HI.out.us (HS.out.below HT.out.al.old) mm x HI.out.ux (by omega) HI.out.q3 (by omega)
          rw [hstep] at hL
          have HL := Lib.hid hL; have HI2 := Lib.hid hst
          have hl0 := HI.out.l0
          clear hL hst hstep hsm hq1 HI
          obtain ⟨b0, b1, b2, b3, b4, b5, b6, b7, b8, b9, b10, b11, b12, bf⟩ := HT.out.mu.cells
          have hkz : (k : Int) < 40 := by omega
          have hk0 : (0 : Int) ≤ (k : Int) := by omega
          have hw1 : IntKind.i64.wrap (l + 1) = l + 1 := IntWalk.i64_in _ (by omega)
          go_wp2_with fail
          refine HL.out.mono ?_
          rintro e V hp
          obtain ⟨rfl, hT⟩ := HT.out.hp hp
          have HT2 := Lib.hid hT
          have hBl : B < V.heap.size := hT.mu.lt
          have hBn : B ≠ V.heap.size := by omega
          clear hp hT HT HL b0 b1 b2 b3 b4 b5 b6 b7 b8 b9 b10 b11 b12 bf
          obtain ⟨b0, b1, b2, b3, b4, b5, b6, b7, b8, b9, b10, b11, b12, bf⟩ := HT2.out.mu.cells
          cases bo
          · go_wp2_with fail
            go_roundw
            case rel => exact ⟨k + 1, l, s2, x2, d2, by go_num, rfl, rfl, by omega, Lib.hid ((HT2.out.put x2).below (below_new _ _)), Lib.hid (by have := HI2.out; simpa [bI] using this)⟩
            case measure => simp [intOf]; omega
          · go_wp2_with fail
            go_roundw
            case rel => exact ⟨k + 1, l + 1, s2, x2, d2, by go_num, rfl, rfl, by omega, Lib.hid ((HT2.out.put x2).below (below_new _ _)), Lib.hid (by have := HI2.out; simpa [bI] using this)⟩
            case measure => simp [intOf]; omega
        · obtain ⟨hf, rfl, rfl⟩ := HI.out.done
          have HUs := Lib.hid HI.out.us
          have HF' := Lib.hid hf
          clear HI hf
          rcases HQ.out with ⟨hrt, hfull⟩ | ⟨hrt, hr2, hmem, hlk⟩
          · obtain ⟨b0, b1, b2, b3, b4, b5, b6, b7, b8, b9, b10, b11, b12, bf⟩ := HT.out.mu.cells
            rw [hrt] at b12
            obtain ⟨x0, x1, x2, x3⟩ := HT.out.al.box
            have hw1 : IntKind.i64.wrap (a - 1) = a - 1 := IntWalk.i64_in _ (by omega)
            have hln : ((σ.n : Int) == a - 1) = true := by simp; omega
            have HLn := Lib.hid (fun W (h : Il.StoreAt W X R L v b c d σ) => Il.Len_c h)
            clear hrt hfull HQ
            go_wp2_with fail
            refine wp_region_held_drew (S := (fun w' => w'.cell? ⟨w.heap.size, 0, none⟩ = some (.int .i64 a))) (by kernel_rfl) ?_ (fun hHeld => ?_)
            · exact x0
            refine wpAnyH_take (i := 0) (oi := { dst := some 120, op := Op.move (Operand.tmp 14), type := 3, pos := "law.go:117", after := #[], guard := none }) (v := ?vf0) rfl (by kernel_rfl) (by kernel_rfl) (by kernel_rfl) (fun _ _ _ h => h) (Or.inl ⟨by rfl, ?hyf0⟩) hHeld ?_
            case hyf0 => (intro w hSw; (try dsimp only at hSw); go_simp; (try with_reducible rfl))
            try simp only [Act.put, List.setIfInBounds_toArray, List.set_cons_zero, List.set_cons_succ]
            refine wpAnyH_take (i := 1) (oi := { dst := some 121, op := Op.binOp BinOp.eql 3 (Operand.tmp 120) (Operand.const (Value.int IntKind.i64 1)) 3, type := 4, pos := "law.go:117", after := #[{ on := 0, ground := Ground.data }], guard := none }) (v := ?vf1) rfl (by kernel_rfl) (by kernel_rfl) (by kernel_rfl) (fun _ _ _ h => h) (Or.inl ⟨by rfl, ?hyf1⟩) hHeld ?_
            case hyf1 => (intro w hSw; (try dsimp only at hSw); go_simp; (try with_reducible rfl))
            try simp only [Act.put, List.setIfInBounds_toArray, List.set_cons_zero, List.set_cons_succ]
            refine wpAnyH_take (i := 2) (oi := { dst := some 122, op := Op.move (Operand.tmp 121), type := 4, pos := "law.go:117", after := #[{ on := 1, ground := Ground.data }], guard := none }) (v := ?vf2) rfl (by kernel_rfl) (by kernel_rfl) (by kernel_rfl) (fun _ _ _ h => h) (Or.inl ⟨by rfl, ?hyf2⟩) hHeld ?_
            case hyf2 => (intro w hSw; (try dsimp only at hSw); go_simp; (try with_reducible rfl))
            try simp only [Act.put, List.setIfInBounds_toArray, List.set_cons_zero, List.set_cons_succ]
            refine wpAnyH_take (i := 3) (oi := { dst := some 123, op := Op.move (Operand.tmp 9), type := 47, pos := "law.go:117", after := #[{ on := 2, ground := Ground.guard }], guard := some (2, true) }) (v := ?vf3) rfl (by kernel_rfl) (by kernel_rfl) (by kernel_rfl) (fun _ _ _ h => h) (Or.inl ⟨by rfl, ?hyf3⟩) hHeld ?_
            case hyf3 => (intro w hSw; (try dsimp only at hSw); go_simp; (try with_reducible rfl))
            try simp only [Act.put, List.setIfInBounds_toArray, List.set_cons_zero, List.set_cons_succ]
            refine wpAnyH_take (i := 5) (oi := { dst := some 125, op := Op.fieldAddr 39 (Operand.tmp 3) 0, type := 0, pos := "law.go:117", after := #[{ on := 2, ground := Ground.guard }], guard := some (2, true) }) (v := ?vf5) rfl (by kernel_rfl) (by kernel_rfl) (by kernel_rfl) (fun _ _ _ h => h) (Or.inl ⟨by rfl, ?hyf5⟩) hHeld ?_
            case hyf5 => (intro w hSw; (try dsimp only at hSw); go_simp; (try with_reducible rfl))
            try simp only [Act.put, List.setIfInBounds_toArray, List.set_cons_zero, List.set_cons_succ]
            refine wpAnyH_take (i := 6) (oi := { dst := some 126, op := Op.load 3 (Operand.tmp 125), type := 3, pos := "law.go:117", after := #[{ on := 5, ground := Ground.data }, { on := 2, ground := Ground.guard }], guard := some (2, true) }) (v := ?vf6) rfl (by kernel_rfl) (by kernel_rfl) (by kernel_rfl) (fun _ _ _ h => h) (Or.inl ⟨by rfl, ?hyf6⟩) hHeld ?_
            case hyf6 => (intro w hSw; (try dsimp only at hSw); go_simp; (try with_reducible rfl))
            try simp only [Act.put, List.setIfInBounds_toArray, List.set_cons_zero, List.set_cons_succ]
            refine wpAnyH_take (i := 7) (oi := { dst := some 127, op := Op.binOp BinOp.sub 3 (Operand.tmp 126) (Operand.const (Value.int IntKind.i64 1)) 3, type := 3, pos := "law.go:117", after := #[{ on := 6, ground := Ground.data }, { on := 2, ground := Ground.guard }], guard := some (2, true) }) (v := ?vf7) rfl (by kernel_rfl) (by kernel_rfl) (by kernel_rfl) (fun _ _ _ h => h) (Or.inl ⟨by rfl, ?hyf7⟩) hHeld ?_
            case hyf7 => (intro w hSw; (try dsimp only at hSw); go_simp; (try with_reducible rfl))
            try simp only [Act.put, List.setIfInBounds_toArray, List.set_cons_zero, List.set_cons_succ]
            refine wpAnyH_ready (rs := [4]) (by kernel_rfl) (by simp) ?_
            refine AllReadyH.cons (o := { dst := some 124, op := Op.call { callee := Callee.value (Operand.func 21), args := #[Operand.tmp 123], argTypes := #[47] }, type := 3, pos := "law.go:117", after := #[{ on := 3, ground := Ground.data }, { on := 2, ground := Ground.chain }, { on := 2, ground := Ground.guard }], guard := some (2, true) }) rfl (fun K hK => ?_) AllReadyH.nil
            go_simp
            refine (HLn.out _ HT.out.al.drew.store).mono ?_
            rintro e V ⟨rfl, rfl⟩
            clear hHeld
            refine hK.out _ _ ?_ (fun hHeld => ?_)
            · exact x0
            clear hK K
            try simp only [Act.put, List.setIfInBounds_toArray, List.set_cons_zero, List.set_cons_succ]
            refine wpAnyH_take (i := 8) (oi := { dst := some 128, op := Op.binOp BinOp.eql 3 (Operand.tmp 124) (Operand.tmp 127) 3, type := 4, pos := "law.go:117", after := #[{ on := 4, ground := Ground.data }, { on := 7, ground := Ground.data }, { on := 2, ground := Ground.guard }], guard := some (2, true) }) (v := ?vf8) rfl (by kernel_rfl) (by kernel_rfl) (by kernel_rfl) (fun _ _ _ h => h) (Or.inl ⟨by rfl, ?hyf8⟩) hHeld ?_
            case hyf8 => (intro w hSw; (try dsimp only at hSw); go_simp; (try with_reducible rfl))
            try simp only [Act.put, List.setIfInBounds_toArray, List.set_cons_zero, List.set_cons_succ]
            refine wpAnyH_take (i := 9) (oi := { dst := some 129, op := Op.pick (Operand.tmp 122) (Operand.tmp 128) (Operand.const (Value.bool false)), type := 4, pos := "law.go:117", after := #[{ on := 2, ground := Ground.data }, { on := 8, ground := Ground.data }], guard := none }) (v := ?vf9) rfl (by kernel_rfl) (by kernel_rfl) (by kernel_rfl) (fun _ _ _ h => h) (Or.inl ⟨by rfl, ?hyf9⟩) hHeld ?_
            case hyf9 => (intro w hSw; (try dsimp only at hSw); go_simp; (try with_reducible rfl))
            try simp only [Act.put, List.setIfInBounds_toArray, List.set_cons_zero, List.set_cons_succ]
            refine wpAnyH_take (i := 10) (oi := { dst := some 6, op := Op.assign (Operand.tmp 129), type := 4, pos := "law.go:117", after := #[{ on := 9, ground := Ground.data }, { on := 4, ground := Ground.chain }, { on := 0, ground := Ground.phase }, { on := 1, ground := Ground.phase }, { on := 2, ground := Ground.phase }, { on := 3, ground := Ground.phase }, { on := 4, ground := Ground.phase }, { on := 5, ground := Ground.phase }, { on := 6, ground := Ground.phase }, { on := 7, ground := Ground.phase }, { on := 8, ground := Ground.phase }, { on := 9, ground := Ground.phase }], guard := none }) (v := ?vf10) rfl (by kernel_rfl) (by kernel_rfl) (by kernel_rfl) (fun _ _ _ h => h) (Or.inl ⟨by rfl, ?hyf10⟩) hHeld ?_
            case hyf10 => (intro w hSw; (try dsimp only at hSw); go_simp; (try with_reducible rfl))
            try simp only [Act.put, List.setIfInBounds_toArray, List.set_cons_zero, List.set_cons_succ]
            refine wpAnyH_done (by kernel_rfl) ?_ _
            clear hHeld
            have HB9 := Lib.hid HT.out.al.drew.old
            go_wp2_with fail
            go_ret
            exact ⟨rfl, HB9.out⟩
          · obtain ⟨b0, b1, b2, b3, b4, b5, b6, b7, b8, b9, b10, b11, b12, bf⟩ := HT.out.mu.cells
            have hn5 : ¬ (x.rt = 5) := hrt
            have h5 : (x.rt == 5) = false := by simpa using hrt
            have hσ30 : σ.n + 1 ≤ 1000000 := by have := HP.out.2; omega
            have HDo := Lib.hid (fun W (h : Il.StoreAt W X R L v b c d σ) (h2 : SpansAt W) (h3 : RowsAt W) => Il.Do_c h h2 h3 mm ok ox oy oz false hσ30)
            have hdn := (doS_n b c d σ mm ok ox oy oz false).1
            have hPn := HP.out.2
            generalize doS b c d σ mm ok ox oy oz false = σ' at *
            generalize hrr : doR b c d σ mm ok ox oy oz false = rr at *
            have HP' : Hid (AlP ⟨n, a, b, c, d⟩ s' σ' ∧ σ'.n ≤ i + 1) := Lib.hid ⟨⟨by rw [HF'.out]; exact hmem, by rw [HF'.out]; exact hlk, HUs.out⟩, by omega⟩
            rw [hr2] at b12 h5
            have hrn : (rr != rr) = false := by simp
            clear hrt hr2 hmem hlk HQ hn5 HUs HF' hdn hPn HP hrr hσ30
            obtain ⟨q0, q1, q2, q3⟩ := hGe.out _ HT.out.al.old
            go_wp2_with fail
            refine wp_region_held_drew (S := (fun w' => w'.cell? ⟨B, 12, none⟩ = some (.int .i64 rr) ∧ w'.cell? ⟨bo, oo + i * 4, none⟩ = some (.int .i64 ok) ∧ w'.cell? ⟨bo, oo + i * 4 + 1, none⟩ = some (.int .i64 ox) ∧ w'.cell? ⟨bo, oo + i * 4 + 2, none⟩ = some (.int .i64 oy) ∧ w'.cell? ⟨bo, oo + i * 4 + 3, none⟩ = some (.int .i64 oz))) (by kernel_rfl) ?_ (fun hHeld => ?_)
            · exact ⟨b12, q0, q1, q2, q3⟩
            refine wpAnyH_take (i := 0) (oi := { dst := some 130, op := Op.move (Operand.tmp 14), type := 3, pos := "law.go:119", after := #[], guard := none }) (v := ?vg0) rfl (by kernel_rfl) (by kernel_rfl) (by kernel_rfl) (fun _ _ _ h => h) (Or.inl ⟨by rfl, ?hyg0⟩) hHeld ?_
            case hyg0 => (intro w hSw; (try dsimp only at hSw); go_simp; (try with_reducible rfl))
            try simp only [Act.put, List.setIfInBounds_toArray, List.set_cons_zero, List.set_cons_succ]
            refine wpAnyH_take (i := 1) (oi := { dst := some 131, op := Op.binOp BinOp.neq 3 (Operand.tmp 130) (Operand.const (Value.int IntKind.i64 1)) 3, type := 4, pos := "law.go:119", after := #[{ on := 0, ground := Ground.data }], guard := none }) (v := ?vg1) rfl (by kernel_rfl) (by kernel_rfl) (by kernel_rfl) (fun _ _ _ h => h) (Or.inl ⟨by rfl, ?hyg1⟩) hHeld ?_
            case hyg1 => (intro w hSw; (try dsimp only at hSw); go_simp; (try with_reducible rfl))
            try simp only [Act.put, List.setIfInBounds_toArray, List.set_cons_zero, List.set_cons_succ]
            refine wpAnyH_take (i := 2) (oi := { dst := some 132, op := Op.move (Operand.tmp 131), type := 4, pos := "law.go:119", after := #[{ on := 1, ground := Ground.data }], guard := none }) (v := ?vg2) rfl (by kernel_rfl) (by kernel_rfl) (by kernel_rfl) (fun _ _ _ h => h) (Or.inl ⟨by rfl, ?hyg2⟩) hHeld ?_
            case hyg2 => (intro w hSw; (try dsimp only at hSw); go_simp; (try with_reducible rfl))
            try simp only [Act.put, List.setIfInBounds_toArray, List.set_cons_zero, List.set_cons_succ]
            refine wpAnyH_take (i := 3) (oi := { dst := some 133, op := Op.fieldAddr 30 (Operand.tmp 13) 9, type := 0, pos := "law.go:119", after := #[{ on := 2, ground := Ground.guard }], guard := some (2, false) }) (v := ?vg3) rfl (by kernel_rfl) (by kernel_rfl) (by kernel_rfl) (fun _ _ _ h => h) (Or.inl ⟨by rfl, ?hyg3⟩) hHeld ?_
            case hyg3 => (intro w hSw; (try dsimp only at hSw); go_simp; (try with_reducible rfl))
            try simp only [Act.put, List.setIfInBounds_toArray, List.set_cons_zero, List.set_cons_succ]
            refine wpAnyH_take (i := 4) (oi := { dst := some 134, op := Op.load 3 (Operand.tmp 133), type := 3, pos := "law.go:119", after := #[{ on := 3, ground := Ground.data }, { on := 2, ground := Ground.guard }], guard := some (2, false) }) (v := ?vg4) rfl (by kernel_rfl) (by kernel_rfl) (by kernel_rfl) (fun _ _ _ h => h) (Or.inl ⟨by rfl, ?hyg4⟩) hHeld ?_
            case hyg4 => (intro w hSw; (try dsimp only at hSw); go_simp; (try with_reducible rfl))
            try simp only [Act.put, List.setIfInBounds_toArray, List.set_cons_zero, List.set_cons_succ]
            refine wpAnyH_take (i := 5) (oi := { dst := some 135, op := Op.move (Operand.tmp 9), type := 47, pos := "law.go:119", after := #[{ on := 2, ground := Ground.guard }], guard := some (2, false) }) (v := ?vg5) rfl (by kernel_rfl) (by kernel_rfl) (by kernel_rfl) (fun _ _ _ h => h) (Or.inl ⟨by rfl, ?hyg5⟩) hHeld ?_
            case hyg5 => (intro w hSw; (try dsimp only at hSw); go_simp; (try with_reducible rfl))
            try simp only [Act.put, List.setIfInBounds_toArray, List.set_cons_zero, List.set_cons_succ]
            refine wpAnyH_take (i := 6) (oi := { dst := some 136, op := Op.move (Operand.tmp 12), type := 3, pos := "law.go:119", after := #[{ on := 2, ground := Ground.guard }], guard := some (2, false) }) (v := ?vg6) rfl (by kernel_rfl) (by kernel_rfl) (by kernel_rfl) (fun _ _ _ h => h) (Or.inl ⟨by rfl, ?hyg6⟩) hHeld ?_
            case hyg6 => (intro w hSw; (try dsimp only at hSw); go_simp; (try with_reducible rfl))
            try simp only [Act.put, List.setIfInBounds_toArray, List.set_cons_zero, List.set_cons_succ]
            refine wpAnyH_take (i := 7) (oi := { dst := some 137, op := Op.move (Operand.tmp 2), type := 41, pos := "law.go:119", after := #[{ on := 2, ground := Ground.guard }], guard := some (2, false) }) (v := ?vg7) rfl (by kernel_rfl) (by kernel_rfl) (by kernel_rfl) (fun _ _ _ h => h) (Or.inl ⟨by rfl, ?hyg7⟩) hHeld ?_
            case hyg7 => (intro w hSw; (try dsimp only at hSw); go_simp; (try with_reducible rfl))
            try simp only [Act.put, List.setIfInBounds_toArray, List.set_cons_zero, List.set_cons_succ]
            refine wpAnyH_take (i := 8) (oi := { dst := some 138, op := Op.move (Operand.tmp 11), type := 3, pos := "law.go:119", after := #[{ on := 2, ground := Ground.guard }], guard := some (2, false) }) (v := ?vg8) rfl (by kernel_rfl) (by kernel_rfl) (by kernel_rfl) (fun _ _ _ h => h) (Or.inl ⟨by rfl, ?hyg8⟩) hHeld ?_
            case hyg8 => (intro w hSw; (try dsimp only at hSw); go_simp; (try with_reducible rfl))
            try simp only [Act.put, List.setIfInBounds_toArray, List.set_cons_zero, List.set_cons_succ]
            refine wpAnyH_take (i := 9) (oi := { dst := some 139, op := Op.indexAddr 41 (Operand.tmp 137) (Operand.tmp 138), type := 0, pos := "law.go:119", after := #[{ on := 7, ground := Ground.data }, { on := 8, ground := Ground.data }, { on := 2, ground := Ground.guard }], guard := some (2, false) }) (v := ?vg9) rfl (by kernel_rfl) (by kernel_rfl) (by kernel_rfl) (fun _ _ _ h => h) (Or.inl ⟨by rfl, ?hyg9⟩) hHeld ?_
            case hyg9 => (intro w hSw; (try dsimp only at hSw); go_simp; (try with_reducible rfl))
            try simp only [Act.put, List.setIfInBounds_toArray, List.set_cons_zero, List.set_cons_succ]
            refine wpAnyH_take (i := 10) (oi := { dst := some 140, op := Op.load 26 (Operand.tmp 139), type := 26, pos := "law.go:119", after := #[{ on := 9, ground := Ground.data }, { on := 2, ground := Ground.guard }], guard := some (2, false) }) (v := ?vg10) rfl (by kernel_rfl) (by kernel_rfl) (by kernel_rfl) (fun _ _ _ h => h) (Or.inl ⟨by rfl, ?hyg10⟩) hHeld ?_
            case hyg10 => (intro w hSw; (try dsimp only at hSw); go_simp; (try with_reducible rfl))
            try simp only [Act.put, List.setIfInBounds_toArray, List.set_cons_zero, List.set_cons_succ]
            refine wpAnyH_ready (rs := [11]) (by kernel_rfl) (by simp) ?_
            refine AllReadyH.cons (o := { dst := some 141, op := Op.call { callee := Callee.value (Operand.func 22), args := #[Operand.tmp 135, Operand.tmp 136, Operand.tmp 140, Operand.const (Value.bool false)], argTypes := #[47, 3, 26, 4] }, type := 3, pos := "law.go:119", after := #[{ on := 5, ground := Ground.data }, { on := 6, ground := Ground.data }, { on := 10, ground := Ground.data }, { on := 2, ground := Ground.chain }, { on := 2, ground := Ground.guard }], guard := some (2, false) }) rfl (fun K hK => ?_) AllReadyH.nil
            go_simp
            have HT1 : Hid (AlT w wr.drew H A G X R L v n a b c d s' σ B x) := Lib.hid ⟨HT.out.al.drew, HT.out.mu, HT.out.lB, HT.out.nB⟩
            refine (HDo.out _ HT1.out.al.store (HS.out.below HT1.out.al.old) (HRw.out.below HT1.out.al.old)).mono ?_
            rintro e V hp
            have hb12 := b12
            obtain ⟨rfl, hmu, v', hAl⟩ := HT1.out.does hp
            have HM7 := Lib.hid hAl
            have b12' := hmu.cells.2.2.2.2.2.2.2.2.2.2.2.2.1
            have e12 : x.rt = rr := by have h1 := HT1.out.mu.cells.2.2.2.2.2.2.2.2.2.2.2.2.1; have h2 : wr.drew.cell? ⟨B, 12, none⟩ = some (.int .i64 rr) := hb12; rw [h2] at h1; injection h1 with h1; injection h1 with _ h1; exact h1.symm
            rw [e12] at b12'
            clear hp hAl HT HT1 HDo hHeld q0 q1 q2 q3 hmu e12 hb12 b0 b1 b2 b3 b4 b5 b6 b7 b8 b9 b10 b11 b12 bf
            have b12 := b12'
            clear b12'
            obtain ⟨q0, q1, q2, q3⟩ := hGe.out _ HM7.out.old
            refine hK.out _ _ ?_ (fun hHeld => ?_)
            · exact ⟨b12, q0, q1, q2, q3⟩
            clear hK K
            try simp only [Act.put, List.setIfInBounds_toArray, List.set_cons_zero, List.set_cons_succ]
            refine wpAnyH_take (i := 12) (oi := { dst := some 142, op := Op.binOp BinOp.neq 3 (Operand.tmp 134) (Operand.tmp 141) 3, type := 4, pos := "law.go:119", after := #[{ on := 4, ground := Ground.data }, { on := 11, ground := Ground.data }, { on := 2, ground := Ground.guard }], guard := some (2, false) }) (v := ?vg12) rfl (by kernel_rfl) (by kernel_rfl) (by kernel_rfl) (fun _ _ _ h => h) (Or.inl ⟨by rfl, ?hyg12⟩) hHeld ?_
            case hyg12 => (intro w hSw; (try dsimp only at hSw); go_simp; (try with_reducible rfl))
            try simp only [Act.put, List.setIfInBounds_toArray, List.set_cons_zero, List.set_cons_succ]
            refine wpAnyH_take (i := 13) (oi := { dst := some 143, op := Op.pick (Operand.tmp 132) (Operand.const (Value.bool true)) (Operand.tmp 142), type := 4, pos := "law.go:119", after := #[{ on := 2, ground := Ground.data }, { on := 12, ground := Ground.data }], guard := none }) (v := ?vg13) rfl (by kernel_rfl) (by kernel_rfl) (by kernel_rfl) (fun _ _ _ h => h) (Or.inl ⟨by rfl, ?hyg13⟩) hHeld ?_
            case hyg13 => (intro w hSw; (try dsimp only at hSw); go_simp; (try with_reducible rfl))
            try simp only [Act.put, List.setIfInBounds_toArray, List.set_cons_zero, List.set_cons_succ]
            refine wpAnyH_done (by kernel_rfl) ?_ _
            clear hHeld b12 q0 q1 q2 q3 hrn h5
            have HM3 : Hid (AlM w V H A G X R L v' n a b c d s' σ') := HM7
            clear HM7
            go_wp2_with fail
            go_loopw [20] (fun vi wr => ∃ k : Nat, vi = .int .i64 k ∧ k ≤ b ∧ Hid (AlM w wr H A G X R L v' n a b c d s' σ')) (fun vi _ => b - (intOf vi).toNat)
            case atStart => exact ⟨0, rfl, by omega, HM3⟩
            case round =>
              clear HM3
              obtain ⟨k3, rfl, hk3, HMc⟩ := hrel
              obtain ⟨x0, x1, x2, x3⟩ := HMc.out.box
              by_cases hb3 : k3 < b
              · have hk0 : (0 : Int) ≤ (k3 : Int) := by omega
                have hkb : (k3 : Int) < (b : Int) := by omega
                go_wp2_with fail
                go_loopw [21] (fun vi wr => ∃ r : Nat, vi = .int .i64 r ∧ r ≤ c ∧ Hid (AlM w wr H A G X R L v' n a b c d s' σ')) (fun vi _ => c - (intOf vi).toNat)
                case atStart => exact ⟨0, rfl, by omega, HMc⟩
                case round =>
                  clear HMc x0 x1 x2 x3
                  obtain ⟨r3, rfl, hr3, HMc⟩ := hrel
                  obtain ⟨x0, x1, x2, x3⟩ := HMc.out.box
                  by_cases hc3 : r3 < c
                  · have hr0 : (0 : Int) ≤ (r3 : Int) := by omega
                    have hrc : (r3 : Int) < (c : Int) := by omega
                    obtain ⟨_, hp0, hp1⟩ := sp_reg hC.out (i := (k3 : Int)) (r := (r3 : Int)) (by first | omega | (dsimp only; omega)) (by first | omega | (dsimp only; omega)) (by first | omega | (dsimp only; omega)) (by first | omega | (dsimp only; omega))
                    have hzz := HP'.out.1.mem.reg k3 r3 (by omega) (by first | omega | (dsimp only; omega)) (by omega) (by first | omega | (dsimp only; omega))
                    dsimp only at hp0 hp1 hzz
                    have HK1 : Hid (∀ W, SpansAt W → Calls Tryz.prog 24 #[.agg #[.int .i64 a, .int .i64 (b : Int), .int .i64 (c : Int), .int .i64 (d : Int)], .int .i64 (k3 : Int), .int .i64 (r3 : Int)] W fun e w' => e = .returned (.int .i64 (regP a b c d k3 r3)) ∧ Below W.heap.size W w') := Lib.hid (fun W h => Reg_c a b c d k3 r3 W h)
                    generalize regP a b c d k3 r3 = P at *
                    have HK2 : Hid (∀ W, ArenaAt W A G n s'.f → Calls Tryz.prog 23 #[.pointer (some ⟨A, 0, none⟩), .int .i64 P] W fun e w' => e = .returned (.int .u64 (s'.f P.toNat)) ∧ W = w') := Lib.hid (fun W h => load_at h P hp0 hp1)
                    have HK3 : Hid (∀ W, Il.StoreAt W X R L v' b c d σ' → Calls Tryz.prog 25 #[.pointer (some ⟨X, 0, none⟩), .int .i64 (k3 : Int), .int .i64 (r3 : Int)] W fun e w' => e = .returned (.int .u64 (σ'.g 0 k3 r3)) ∧ Below W.heap.size W w') := Lib.hid (fun W h => Il.Reg_c h k3 r3)
                    rw [hzz] at HK2
                    generalize ((σ'.g 0 k3 r3 : Nat) : Int) = Z at *
                    have hZ : (Z != Z) = false := by simp
                    clear hzz hp0 hp1
                    obtain ⟨y0, ⟨y1, y2, y3, y4⟩, _⟩ := HMc.out.hand.cells
                    go_wp2_with fail
                    refine wp_region_held_drew (S := (fun w' => w'.cell? ⟨H, 0, none⟩ = some (.pointer (some ⟨A, 0, none⟩)) ∧ w'.cell? ⟨H, 1, none⟩ = some (.int .i64 a) ∧ w'.cell? ⟨H, 2, none⟩ = some (.int .i64 (b : Int)) ∧ w'.cell? ⟨H, 3, none⟩ = some (.int .i64 (c : Int)) ∧ w'.cell? ⟨H, 4, none⟩ = some (.int .i64 (d : Int)))) (by kernel_rfl) ?_ (fun hHeld => ?_)
                    · exact ⟨y0, y1, y2, y3, y4⟩
                    refine wpAnyH_take (i := 0) (oi := { dst := some 156, op := Op.move (Operand.tmp 7), type := 43, pos := "law.go:125", after := #[], guard := none }) (v := ?vh0) rfl (by kernel_rfl) (by kernel_rfl) (by kernel_rfl) (fun _ _ _ h => h) (Or.inl ⟨by rfl, ?hyh0⟩) hHeld ?_
                    case hyh0 => (intro w hSw; (try dsimp only at hSw); go_simp; (try with_reducible rfl))
                    try simp only [Act.put, List.setIfInBounds_toArray, List.set_cons_zero, List.set_cons_succ]
                    refine wpAnyH_take (i := 1) (oi := { dst := some 157, op := Op.nilCheck (Operand.tmp 156), type := 0, pos := "law.go:125", after := #[{ on := 0, ground := Ground.data }], guard := none }) (v := ?vh1) rfl (by kernel_rfl) (by kernel_rfl) (by kernel_rfl) (fun _ _ _ h => h) (Or.inl ⟨by rfl, ?hyh1⟩) hHeld ?_
                    case hyh1 => (intro w hSw; (try dsimp only at hSw); go_simp; (try with_reducible rfl))
                    try simp only [Act.put, List.setIfInBounds_toArray, List.set_cons_zero, List.set_cons_succ]
                    refine wpAnyH_take (i := 2) (oi := { dst := some 158, op := Op.fieldAddr 62 (Operand.tmp 157) 0, type := 0, pos := "law.go:125", after := #[{ on := 1, ground := Ground.data }], guard := none }) (v := ?vh2) rfl (by kernel_rfl) (by kernel_rfl) (by kernel_rfl) (fun _ _ _ h => h) (Or.inl ⟨by rfl, ?hyh2⟩) hHeld ?_
                    case hyh2 => (intro w hSw; (try dsimp only at hSw); go_simp; (try with_reducible rfl))
                    try simp only [Act.put, List.setIfInBounds_toArray, List.set_cons_zero, List.set_cons_succ]
                    refine wpAnyH_take (i := 3) (oi := { dst := some 159, op := Op.load 56 (Operand.tmp 158), type := 56, pos := "law.go:125", after := #[{ on := 2, ground := Ground.data }], guard := none }) (v := ?vh3) rfl (by kernel_rfl) (by kernel_rfl) (by kernel_rfl) (fun _ _ _ h => h) (Or.inl ⟨by rfl, ?hyh3⟩) hHeld ?_
                    case hyh3 => (intro w hSw; (try dsimp only at hSw); go_simp; (try with_reducible rfl))
                    try simp only [Act.put, List.setIfInBounds_toArray, List.set_cons_zero, List.set_cons_succ]
                    refine wpAnyH_take (i := 4) (oi := { dst := some 160, op := Op.move (Operand.tmp 7), type := 43, pos := "law.go:125", after := #[], guard := none }) (v := ?vh4) rfl (by kernel_rfl) (by kernel_rfl) (by kernel_rfl) (fun _ _ _ h => h) (Or.inl ⟨by rfl, ?hyh4⟩) hHeld ?_
                    case hyh4 => (intro w hSw; (try dsimp only at hSw); go_simp; (try with_reducible rfl))
                    try simp only [Act.put, List.setIfInBounds_toArray, List.set_cons_zero, List.set_cons_succ]
                    refine wpAnyH_take (i := 5) (oi := { dst := some 161, op := Op.nilCheck (Operand.tmp 160), type := 0, pos := "law.go:125", after := #[{ on := 4, ground := Ground.data }], guard := none }) (v := ?vh5) rfl (by kernel_rfl) (by kernel_rfl) (by kernel_rfl) (fun _ _ _ h => h) (Or.inl ⟨by rfl, ?hyh5⟩) hHeld ?_
                    case hyh5 => (intro w hSw; (try dsimp only at hSw); go_simp; (try with_reducible rfl))
                    try simp only [Act.put, List.setIfInBounds_toArray, List.set_cons_zero, List.set_cons_succ]
                    refine wpAnyH_take (i := 6) (oi := { dst := some 162, op := Op.fieldAddr 62 (Operand.tmp 161) 1, type := 0, pos := "law.go:125", after := #[{ on := 5, ground := Ground.data }], guard := none }) (v := ?vh6) rfl (by kernel_rfl) (by kernel_rfl) (by kernel_rfl) (fun _ _ _ h => h) (Or.inl ⟨by rfl, ?hyh6⟩) hHeld ?_
                    case hyh6 => (intro w hSw; (try dsimp only at hSw); go_simp; (try with_reducible rfl))
                    try simp only [Act.put, List.setIfInBounds_toArray, List.set_cons_zero, List.set_cons_succ]
                    refine wpAnyH_take (i := 7) (oi := { dst := some 163, op := Op.load 58 (Operand.tmp 162), type := 58, pos := "law.go:125", after := #[{ on := 6, ground := Ground.data }], guard := none }) (v := ?vh7) rfl (by kernel_rfl) (by kernel_rfl) (by kernel_rfl) (fun _ _ _ h => h) (Or.inl ⟨by rfl, ?hyh7⟩) hHeld ?_
                    case hyh7 => (intro w hSw; (try dsimp only at hSw); go_simp; (try with_reducible rfl))
                    try simp only [Act.put, List.setIfInBounds_toArray, List.set_cons_zero, List.set_cons_succ]
                    refine wpAnyH_take (i := 8) (oi := { dst := some 164, op := Op.move (Operand.tmp 20), type := 3, pos := "law.go:125", after := #[], guard := none }) (v := ?vh8) rfl (by kernel_rfl) (by kernel_rfl) (by kernel_rfl) (fun _ _ _ h => h) (Or.inl ⟨by rfl, ?hyh8⟩) hHeld ?_
                    case hyh8 => (intro w hSw; (try dsimp only at hSw); go_simp; (try with_reducible rfl))
                    try simp only [Act.put, List.setIfInBounds_toArray, List.set_cons_zero, List.set_cons_succ]
                    refine wpAnyH_take (i := 9) (oi := { dst := some 165, op := Op.move (Operand.tmp 21), type := 3, pos := "law.go:125", after := #[], guard := none }) (v := ?vh9) rfl (by kernel_rfl) (by kernel_rfl) (by kernel_rfl) (fun _ _ _ h => h) (Or.inl ⟨by rfl, ?hyh9⟩) hHeld ?_
                    case hyh9 => (intro w hSw; (try dsimp only at hSw); go_simp; (try with_reducible rfl))
                    try simp only [Act.put, List.setIfInBounds_toArray, List.set_cons_zero, List.set_cons_succ]
                    refine wpAnyH_take (i := 12) (oi := { dst := some 168, op := Op.move (Operand.tmp 9), type := 47, pos := "law.go:125", after := #[], guard := none }) (v := ?vh12) rfl (by kernel_rfl) (by kernel_rfl) (by kernel_rfl) (fun _ _ _ h => h) (Or.inl ⟨by rfl, ?hyh12⟩) hHeld ?_
                    case hyh12 => (intro w hSw; (try dsimp only at hSw); go_simp; (try with_reducible rfl))
                    try simp only [Act.put, List.setIfInBounds_toArray, List.set_cons_zero, List.set_cons_succ]
                    refine wpAnyH_take (i := 13) (oi := { dst := some 169, op := Op.move (Operand.tmp 20), type := 3, pos := "law.go:125", after := #[], guard := none }) (v := ?vh13) rfl (by kernel_rfl) (by kernel_rfl) (by kernel_rfl) (fun _ _ _ h => h) (Or.inl ⟨by rfl, ?hyh13⟩) hHeld ?_
                    case hyh13 => (intro w hSw; (try dsimp only at hSw); go_simp; (try with_reducible rfl))
                    try simp only [Act.put, List.setIfInBounds_toArray, List.set_cons_zero, List.set_cons_succ]
                    refine wpAnyH_take (i := 14) (oi := { dst := some 170, op := Op.move (Operand.tmp 21), type := 3, pos := "law.go:125", after := #[], guard := none }) (v := ?vh14) rfl (by kernel_rfl) (by kernel_rfl) (by kernel_rfl) (fun _ _ _ h => h) (Or.inl ⟨by rfl, ?hyh14⟩) hHeld ?_
                    case hyh14 => (intro w hSw; (try dsimp only at hSw); go_simp; (try with_reducible rfl))
                    try simp only [Act.put, List.setIfInBounds_toArray, List.set_cons_zero, List.set_cons_succ]
                    refine wpAnyH_ready (rs := [10]) (by kernel_rfl) (by simp) ?_
                    refine AllReadyH.cons (o := { dst := some 166, op := Op.call { callee := Callee.value (Operand.func 24), args := #[Operand.tmp 163, Operand.tmp 164, Operand.tmp 165], argTypes := #[58, 3, 3] }, type := 3, pos := "law.go:125", after := #[{ on := 7, ground := Ground.data }, { on := 8, ground := Ground.data }, { on := 9, ground := Ground.data }], guard := none }) rfl (fun K hK => ?_) AllReadyH.nil
                    go_simp
                    have HMc0 := Lib.hid HMc.out.drew
                    clear HMc
                    refine (HK1.out _ (HS.out.below HMc0.out.old)).mono ?_
                    rintro e Vc1 ⟨rfl, hb⟩
                    have HMc1 := Lib.hid (HMc0.out.below hb)
                    clear hb HMc0 hHeld y0 y1 y2 y3 y4
                    obtain ⟨y0, ⟨y1, y2, y3, y4⟩, _⟩ := HMc1.out.hand.cells
                    refine hK.out _ _ ?_ (fun hHeld => ?_)
                    · exact ⟨y0, y1, y2, y3, y4⟩
                    clear hK K
                    try simp only [Act.put, List.setIfInBounds_toArray, List.set_cons_zero, List.set_cons_succ]
                    refine wpAnyH_ready (rs := [11]) (by kernel_rfl) (by simp) ?_
                    refine AllReadyH.cons (o := { dst := some 167, op := Op.call { callee := Callee.value (Operand.func 23), args := #[Operand.tmp 159, Operand.tmp 166], argTypes := #[56, 3] }, type := 28, pos := "law.go:125", after := #[{ on := 3, ground := Ground.data }, { on := 10, ground := Ground.data }, { on := 10, ground := Ground.chain }], guard := none }) rfl (fun K hK => ?_) AllReadyH.nil
                    go_simp
                    refine (HK2.out _ HMc1.out.hand.ar).mono ?_
                    rintro e Vc2 ⟨rfl, rfl⟩
                    clear hHeld
                    refine hK.out _ _ ?_ (fun hHeld => ?_)
                    · exact ⟨y0, y1, y2, y3, y4⟩
                    clear hK K
                    try simp only [Act.put, List.setIfInBounds_toArray, List.set_cons_zero, List.set_cons_succ]
                    refine wpAnyH_ready (rs := [15]) (by kernel_rfl) (by simp) ?_
                    refine AllReadyH.cons (o := { dst := some 171, op := Op.call { callee := Callee.value (Operand.func 25), args := #[Operand.tmp 168, Operand.tmp 169, Operand.tmp 170], argTypes := #[47, 3, 3] }, type := 28, pos := "law.go:125", after := #[{ on := 12, ground := Ground.data }, { on := 13, ground := Ground.data }, { on := 14, ground := Ground.data }, { on := 11, ground := Ground.chain }], guard := none }) rfl (fun K hK => ?_) AllReadyH.nil
                    go_simp
                    refine (HK3.out _ HMc1.out.store).mono ?_
                    rintro e Vc2 ⟨rfl, hb⟩
                    have HMc2 := Lib.hid (HMc1.out.below hb)
                    clear hb HMc1 hHeld y0 y1 y2 y3 y4
                    obtain ⟨y0, ⟨y1, y2, y3, y4⟩, _⟩ := HMc2.out.hand.cells
                    refine hK.out _ _ ?_ (fun hHeld => ?_)
                    · exact ⟨y0, y1, y2, y3, y4⟩
                    clear hK K
                    try simp only [Act.put, List.setIfInBounds_toArray, List.set_cons_zero, List.set_cons_succ]
                    refine wpAnyH_take (i := 16) (oi := { dst := some 172, op := Op.binOp BinOp.neq 28 (Operand.tmp 167) (Operand.tmp 171) 28, type := 4, pos := "law.go:125", after := #[{ on := 11, ground := Ground.data }, { on := 15, ground := Ground.data }], guard := none }) (v := ?vh16) rfl (by kernel_rfl) (by kernel_rfl) (by kernel_rfl) (fun _ _ _ h => h) (Or.inl ⟨by rfl, ?hyh16⟩) hHeld ?_
                    case hyh16 => (intro w hSw; (try dsimp only at hSw); go_simp; (try with_reducible rfl))
                    try simp only [Act.put, List.setIfInBounds_toArray, List.set_cons_zero, List.set_cons_succ]
                    refine wpAnyH_done (by kernel_rfl) ?_ _
                    clear hHeld y0 y1 y2 y3 y4 HK1 HK2 HK3 x0 x1 x2 x3
                    go_wp2_with fail
                    go_roundw
                    case rel => exact ⟨r3 + 1, by go_num, by omega, HMc2⟩
                    case measure => simp [intOf]; omega
                  · go_wp2_with fail
                    go_roundw
                    case rel => exact ⟨k3 + 1, by go_num, by omega, HMc⟩
                    case measure => simp [intOf]; omega
              · go_wp2_with fail
                clear x0 x1 x2 x3
                go_loopw [22] (fun vi wr => ∃ k : Nat, vi = .int .i64 k ∧ k ≤ d ∧ Hid (AlM w wr H A G X R L v' n a b c d s' σ')) (fun vi _ => d - (intOf vi).toNat)
                case atStart => exact ⟨0, rfl, by omega, HMc⟩
                case round =>
                  clear HMc
                  obtain ⟨k5, rfl, hk5, HMc⟩ := hrel
                  obtain ⟨x0, x1, x2, x3⟩ := HMc.out.box
                  by_cases hd5 : k5 < d
                  · have hk0 : (0 : Int) ≤ (k5 : Int) := by omega
                    have hkd : (k5 : Int) < (d : Int) := by omega
                    obtain ⟨_, hp0, hp1⟩ := sp_glob hC.out (i := (k5 : Int)) (by first | omega | (dsimp only; omega)) (by first | omega | (dsimp only; omega))
                    have hzz := HP'.out.1.mem.glob k5 (by omega) (by first | omega | (dsimp only; omega))
                    dsimp only at hp0 hp1 hzz
                    have HK1 : Hid (∀ W, SpansAt W → Calls Tryz.prog 26 #[.agg #[.int .i64 a, .int .i64 (b : Int), .int .i64 (c : Int), .int .i64 (d : Int)], .int .i64 (k5 : Int)] W fun e w' => e = .returned (.int .i64 (globP a b c d k5)) ∧ Below W.heap.size W w') := Lib.hid (fun W h => Glob_c a b c d k5 W h)
                    generalize globP a b c d k5 = P at *
                    have HK2 : Hid (∀ W, ArenaAt W A G n s'.f → Calls Tryz.prog 23 #[.pointer (some ⟨A, 0, none⟩), .int .i64 P] W fun e w' => e = .returned (.int .u64 (s'.f P.toNat)) ∧ W = w') := Lib.hid (fun W h => load_at h P hp0 hp1)
                    have HK3 : Hid (∀ W, Il.StoreAt W X R L v' b c d σ' → Calls Tryz.prog 27 #[.pointer (some ⟨X, 0, none⟩), .int .i64 (k5 : Int)] W fun e w' => e = .returned (.int .u64 (σ'.g 1 k5 0)) ∧ Below W.heap.size W w') := Lib.hid (fun W h => Il.Glob_c h k5)
                    rw [hzz] at HK2
                    generalize ((σ'.g 1 k5 0 : Nat) : Int) = Z at *
                    have hZ : (Z != Z) = false := by simp
                    clear hzz hp0 hp1
                    obtain ⟨y0, ⟨y1, y2, y3, y4⟩, _⟩ := HMc.out.hand.cells
                    go_wp2_with fail
                    refine wp_region_held_drew (S := (fun w' => w'.cell? ⟨H, 0, none⟩ = some (.pointer (some ⟨A, 0, none⟩)) ∧ w'.cell? ⟨H, 1, none⟩ = some (.int .i64 a) ∧ w'.cell? ⟨H, 2, none⟩ = some (.int .i64 (b : Int)) ∧ w'.cell? ⟨H, 3, none⟩ = some (.int .i64 (c : Int)) ∧ w'.cell? ⟨H, 4, none⟩ = some (.int .i64 (d : Int)))) (by kernel_rfl) ?_ (fun hHeld => ?_)
                    · exact ⟨y0, y1, y2, y3, y4⟩
                    refine wpAnyH_take (i := 0) (oi := { dst := some 179, op := Op.move (Operand.tmp 7), type := 43, pos := "law.go:131", after := #[], guard := none }) (v := ?vj0) rfl (by kernel_rfl) (by kernel_rfl) (by kernel_rfl) (fun _ _ _ h => h) (Or.inl ⟨by rfl, ?hyj0⟩) hHeld ?_
                    case hyj0 => (intro w hSw; (try dsimp only at hSw); go_simp; (try with_reducible rfl))
                    try simp only [Act.put, List.setIfInBounds_toArray, List.set_cons_zero, List.set_cons_succ]
                    refine wpAnyH_take (i := 1) (oi := { dst := some 180, op := Op.nilCheck (Operand.tmp 179), type := 0, pos := "law.go:131", after := #[{ on := 0, ground := Ground.data }], guard := none }) (v := ?vj1) rfl (by kernel_rfl) (by kernel_rfl) (by kernel_rfl) (fun _ _ _ h => h) (Or.inl ⟨by rfl, ?hyj1⟩) hHeld ?_
                    case hyj1 => (intro w hSw; (try dsimp only at hSw); go_simp; (try with_reducible rfl))
                    try simp only [Act.put, List.setIfInBounds_toArray, List.set_cons_zero, List.set_cons_succ]
                    refine wpAnyH_take (i := 2) (oi := { dst := some 181, op := Op.fieldAddr 62 (Operand.tmp 180) 0, type := 0, pos := "law.go:131", after := #[{ on := 1, ground := Ground.data }], guard := none }) (v := ?vj2) rfl (by kernel_rfl) (by kernel_rfl) (by kernel_rfl) (fun _ _ _ h => h) (Or.inl ⟨by rfl, ?hyj2⟩) hHeld ?_
                    case hyj2 => (intro w hSw; (try dsimp only at hSw); go_simp; (try with_reducible rfl))
                    try simp only [Act.put, List.setIfInBounds_toArray, List.set_cons_zero, List.set_cons_succ]
                    refine wpAnyH_take (i := 3) (oi := { dst := some 182, op := Op.load 56 (Operand.tmp 181), type := 56, pos := "law.go:131", after := #[{ on := 2, ground := Ground.data }], guard := none }) (v := ?vj3) rfl (by kernel_rfl) (by kernel_rfl) (by kernel_rfl) (fun _ _ _ h => h) (Or.inl ⟨by rfl, ?hyj3⟩) hHeld ?_
                    case hyj3 => (intro w hSw; (try dsimp only at hSw); go_simp; (try with_reducible rfl))
                    try simp only [Act.put, List.setIfInBounds_toArray, List.set_cons_zero, List.set_cons_succ]
                    refine wpAnyH_take (i := 4) (oi := { dst := some 183, op := Op.move (Operand.tmp 7), type := 43, pos := "law.go:131", after := #[], guard := none }) (v := ?vj4) rfl (by kernel_rfl) (by kernel_rfl) (by kernel_rfl) (fun _ _ _ h => h) (Or.inl ⟨by rfl, ?hyj4⟩) hHeld ?_
                    case hyj4 => (intro w hSw; (try dsimp only at hSw); go_simp; (try with_reducible rfl))
                    try simp only [Act.put, List.setIfInBounds_toArray, List.set_cons_zero, List.set_cons_succ]
                    refine wpAnyH_take (i := 5) (oi := { dst := some 184, op := Op.nilCheck (Operand.tmp 183), type := 0, pos := "law.go:131", after := #[{ on := 4, ground := Ground.data }], guard := none }) (v := ?vj5) rfl (by kernel_rfl) (by kernel_rfl) (by kernel_rfl) (fun _ _ _ h => h) (Or.inl ⟨by rfl, ?hyj5⟩) hHeld ?_
                    case hyj5 => (intro w hSw; (try dsimp only at hSw); go_simp; (try with_reducible rfl))
                    try simp only [Act.put, List.setIfInBounds_toArray, List.set_cons_zero, List.set_cons_succ]
                    refine wpAnyH_take (i := 6) (oi := { dst := some 185, op := Op.fieldAddr 62 (Operand.tmp 184) 1, type := 0, pos := "law.go:131", after := #[{ on := 5, ground := Ground.data }], guard := none }) (v := ?vj6) rfl (by kernel_rfl) (by kernel_rfl) (by kernel_rfl) (fun _ _ _ h => h) (Or.inl ⟨by rfl, ?hyj6⟩) hHeld ?_
                    case hyj6 => (intro w hSw; (try dsimp only at hSw); go_simp; (try with_reducible rfl))
                    try simp only [Act.put, List.setIfInBounds_toArray, List.set_cons_zero, List.set_cons_succ]
                    refine wpAnyH_take (i := 7) (oi := { dst := some 186, op := Op.load 58 (Operand.tmp 185), type := 58, pos := "law.go:131", after := #[{ on := 6, ground := Ground.data }], guard := none }) (v := ?vj7) rfl (by kernel_rfl) (by kernel_rfl) (by kernel_rfl) (fun _ _ _ h => h) (Or.inl ⟨by rfl, ?hyj7⟩) hHeld ?_
                    case hyj7 => (intro w hSw; (try dsimp only at hSw); go_simp; (try with_reducible rfl))
                    try simp only [Act.put, List.setIfInBounds_toArray, List.set_cons_zero, List.set_cons_succ]
                    refine wpAnyH_take (i := 8) (oi := { dst := some 187, op := Op.move (Operand.tmp 22), type := 3, pos := "law.go:131", after := #[], guard := none }) (v := ?vj8) rfl (by kernel_rfl) (by kernel_rfl) (by kernel_rfl) (fun _ _ _ h => h) (Or.inl ⟨by rfl, ?hyj8⟩) hHeld ?_
                    case hyj8 => (intro w hSw; (try dsimp only at hSw); go_simp; (try with_reducible rfl))
                    try simp only [Act.put, List.setIfInBounds_toArray, List.set_cons_zero, List.set_cons_succ]
                    refine wpAnyH_take (i := 11) (oi := { dst := some 190, op := Op.move (Operand.tmp 9), type := 47, pos := "law.go:131", after := #[], guard := none }) (v := ?vj11) rfl (by kernel_rfl) (by kernel_rfl) (by kernel_rfl) (fun _ _ _ h => h) (Or.inl ⟨by rfl, ?hyj11⟩) hHeld ?_
                    case hyj11 => (intro w hSw; (try dsimp only at hSw); go_simp; (try with_reducible rfl))
                    try simp only [Act.put, List.setIfInBounds_toArray, List.set_cons_zero, List.set_cons_succ]
                    refine wpAnyH_take (i := 12) (oi := { dst := some 191, op := Op.move (Operand.tmp 22), type := 3, pos := "law.go:131", after := #[], guard := none }) (v := ?vj12) rfl (by kernel_rfl) (by kernel_rfl) (by kernel_rfl) (fun _ _ _ h => h) (Or.inl ⟨by rfl, ?hyj12⟩) hHeld ?_
                    case hyj12 => (intro w hSw; (try dsimp only at hSw); go_simp; (try with_reducible rfl))
                    try simp only [Act.put, List.setIfInBounds_toArray, List.set_cons_zero, List.set_cons_succ]
                    refine wpAnyH_ready (rs := [9]) (by kernel_rfl) (by simp) ?_
                    refine AllReadyH.cons (o := { dst := some 188, op := Op.call { callee := Callee.value (Operand.func 26), args := #[Operand.tmp 186, Operand.tmp 187], argTypes := #[58, 3] }, type := 3, pos := "law.go:131", after := #[{ on := 7, ground := Ground.data }, { on := 8, ground := Ground.data }], guard := none }) rfl (fun K hK => ?_) AllReadyH.nil
                    go_simp
                    have HMc0 := Lib.hid HMc.out.drew
                    clear HMc
                    refine (HK1.out _ (HS.out.below HMc0.out.old)).mono ?_
                    rintro e Vc1 ⟨rfl, hb⟩
                    have HMc1 := Lib.hid (HMc0.out.below hb)
                    clear hb HMc0 hHeld y0 y1 y2 y3 y4
                    obtain ⟨y0, ⟨y1, y2, y3, y4⟩, _⟩ := HMc1.out.hand.cells
                    refine hK.out _ _ ?_ (fun hHeld => ?_)
                    · exact ⟨y0, y1, y2, y3, y4⟩
                    clear hK K
                    try simp only [Act.put, List.setIfInBounds_toArray, List.set_cons_zero, List.set_cons_succ]
                    refine wpAnyH_ready (rs := [10]) (by kernel_rfl) (by simp) ?_
                    refine AllReadyH.cons (o := { dst := some 189, op := Op.call { callee := Callee.value (Operand.func 23), args := #[Operand.tmp 182, Operand.tmp 188], argTypes := #[56, 3] }, type := 28, pos := "law.go:131", after := #[{ on := 3, ground := Ground.data }, { on := 9, ground := Ground.data }, { on := 9, ground := Ground.chain }], guard := none }) rfl (fun K hK => ?_) AllReadyH.nil
                    go_simp
                    refine (HK2.out _ HMc1.out.hand.ar).mono ?_
                    rintro e Vc2 ⟨rfl, rfl⟩
                    clear hHeld
                    refine hK.out _ _ ?_ (fun hHeld => ?_)
                    · exact ⟨y0, y1, y2, y3, y4⟩
                    clear hK K
                    try simp only [Act.put, List.setIfInBounds_toArray, List.set_cons_zero, List.set_cons_succ]
                    refine wpAnyH_ready (rs := [13]) (by kernel_rfl) (by simp) ?_
                    refine AllReadyH.cons (o := { dst := some 192, op := Op.call { callee := Callee.value (Operand.func 27), args := #[Operand.tmp 190, Operand.tmp 191], argTypes := #[47, 3] }, type := 28, pos := "law.go:131", after := #[{ on := 11, ground := Ground.data }, { on := 12, ground := Ground.data }, { on := 10, ground := Ground.chain }], guard := none }) rfl (fun K hK => ?_) AllReadyH.nil
                    go_simp
                    refine (HK3.out _ HMc1.out.store).mono ?_
                    rintro e Vc2 ⟨rfl, hb⟩
                    have HMc2 := Lib.hid (HMc1.out.below hb)
                    clear hb HMc1 hHeld y0 y1 y2 y3 y4
                    obtain ⟨y0, ⟨y1, y2, y3, y4⟩, _⟩ := HMc2.out.hand.cells
                    refine hK.out _ _ ?_ (fun hHeld => ?_)
                    · exact ⟨y0, y1, y2, y3, y4⟩
                    clear hK K
                    try simp only [Act.put, List.setIfInBounds_toArray, List.set_cons_zero, List.set_cons_succ]
                    refine wpAnyH_take (i := 14) (oi := { dst := some 193, op := Op.binOp BinOp.neq 28 (Operand.tmp 189) (Operand.tmp 192) 28, type := 4, pos := "law.go:131", after := #[{ on := 10, ground := Ground.data }, { on := 13, ground := Ground.data }], guard := none }) (v := ?vj14) rfl (by kernel_rfl) (by kernel_rfl) (by kernel_rfl) (fun _ _ _ h => h) (Or.inl ⟨by rfl, ?hyj14⟩) hHeld ?_
                    case hyj14 => (intro w hSw; (try dsimp only at hSw); go_simp; (try with_reducible rfl))
                    try simp only [Act.put, List.setIfInBounds_toArray, List.set_cons_zero, List.set_cons_succ]
                    refine wpAnyH_done (by kernel_rfl) ?_ _
                    clear hHeld y0 y1 y2 y3 y4 HK1 HK2 HK3 x0 x1 x2 x3
                    go_wp2_with fail
                    go_roundw
                    case rel => exact ⟨k5 + 1, by go_num, by omega, HMc2⟩
                    case measure => simp [intOf]; omega
                  · go_wp2_with fail
                    clear x0 x1 x2 x3
                    go_loopw [23] (fun vi wr => ∃ k : Nat, vi = .int .i64 k ∧ k ≤ σ'.n ∧ Hid (AlM w wr H A G X R L v' n a b c d s' σ')) (fun vi _ => σ'.n - (intOf vi).toNat)
                    case atStart => exact ⟨0, rfl, by omega, HMc⟩
                    case round =>
                      clear HMc
                      obtain ⟨k6, rfl, hk6, HMc⟩ := hrel
                      have HLn := Lib.hid (fun W (h : Il.StoreAt W X R L v' b c d σ') => Il.Len_c h)
                      have hσa : (σ'.n : Int) < a := HP'.out.1.mem.lt
                      by_cases hn6 : k6 < σ'.n
                      · have hk0 : (0 : Int) ≤ (k6 : Int) := by omega
                        have hkn : (k6 : Int) < (σ'.n : Int) := by omega
                        obtain ⟨_, hp0, hp1⟩ := sp_part hC.out (k := 0) (i := (k6 : Int)) (by omega) (by first | omega | (dsimp only; omega)) (by omega) (by omega)
                        obtain ⟨_, hp2, hp3⟩ := sp_part hC.out (k := 1) (i := (k6 : Int)) (by omega) (by first | omega | (dsimp only; omega)) (by omega) (by omega)
                        have hza := HP'.out.1.mem.car k6 hn6
                        have hzb := HP'.out.1.mem.cdr k6 hn6
                        dsimp only at hp0 hp1 hp2 hp3 hza hzb
                        have HK1 : Hid (∀ W, SpansAt W → Calls Tryz.prog 28 #[.agg #[.int .i64 a, .int .i64 (b : Int), .int .i64 (c : Int), .int .i64 (d : Int)], .int .i64 (k6 : Int)] W fun e w' => e = .returned (.int .i64 (partP a b c d 0 k6)) ∧ Below W.heap.size W w') := Lib.hid (fun W h => Car_c a b c d k6 W h)
                        have HK4 : Hid (∀ W, SpansAt W → Calls Tryz.prog 30 #[.agg #[.int .i64 a, .int .i64 (b : Int), .int .i64 (c : Int), .int .i64 (d : Int)], .int .i64 (k6 : Int)] W fun e w' => e = .returned (.int .i64 (partP a b c d 1 k6)) ∧ Below W.heap.size W w') := Lib.hid (fun W h => Cdr_c a b c d k6 W h)
                        generalize partP a b c d 0 k6 = P at *
                        generalize partP a b c d 1 k6 = P2 at *
                        have HK2 : Hid (∀ W, ArenaAt W A G n s'.f → Calls Tryz.prog 23 #[.pointer (some ⟨A, 0, none⟩), .int .i64 P] W fun e w' => e = .returned (.int .u64 (s'.f P.toNat)) ∧ W = w') := Lib.hid (fun W h => load_at h P hp0 hp1)
                        have HK5 : Hid (∀ W, ArenaAt W A G n s'.f → Calls Tryz.prog 23 #[.pointer (some ⟨A, 0, none⟩), .int .i64 P2] W fun e w' => e = .returned (.int .u64 (s'.f P2.toNat)) ∧ W = w') := Lib.hid (fun W h => load_at h P2 hp2 hp3)
                        have HK3 : Hid (∀ W, Il.StoreAt W X R L v' b c d σ' → Calls Tryz.prog 29 #[.pointer (some ⟨X, 0, none⟩), .int .i64 (k6 : Int)] W fun e w' => e = .returned (.int .u64 (σ'.g 2 k6 0)) ∧ Below W.heap.size W w') := Lib.hid (fun W h => Il.Car_c h k6)
                        have HK6 : Hid (∀ W, Il.StoreAt W X R L v' b c d σ' → Calls Tryz.prog 31 #[.pointer (some ⟨X, 0, none⟩), .int .i64 (k6 : Int)] W fun e w' => e = .returned (.int .u64 (σ'.g 3 k6 0)) ∧ Below W.heap.size W w') := Lib.hid (fun W h => Il.Cdr_c h k6)
                        rw [hza] at HK2
                        rw [hzb] at HK5
                        generalize ((σ'.g 2 k6 0 : Nat) : Int) = Z at *
                        generalize ((σ'.g 3 k6 0 : Nat) : Int) = Z2 at *
                        have hZ : (Z != Z) = false := by simp
                        have hZ2 : (Z2 != Z2) = false := by simp
                        clear hza hzb hp0 hp1 hp2 hp3
                        go_wp2_with fail
                        refine (HLn.out _ HMc.out.store).mono ?_
                        rintro e V6 ⟨rfl, rfl⟩
                        clear HLn
                        obtain ⟨y0, ⟨y1, y2, y3, y4⟩, _⟩ := HMc.out.hand.cells
                        go_wp2_with fail
                        refine wp_region_held_drew (S := (fun w' => w'.cell? ⟨H, 0, none⟩ = some (.pointer (some ⟨A, 0, none⟩)) ∧ w'.cell? ⟨H, 1, none⟩ = some (.int .i64 a) ∧ w'.cell? ⟨H, 2, none⟩ = some (.int .i64 (b : Int)) ∧ w'.cell? ⟨H, 3, none⟩ = some (.int .i64 (c : Int)) ∧ w'.cell? ⟨H, 4, none⟩ = some (.int .i64 (d : Int)))) (by kernel_rfl) ?_ (fun hHeld => ?_)
                        · exact ⟨y0, y1, y2, y3, y4⟩
                        refine wpAnyH_take (i := 0) (oi := { dst := some 200, op := Op.move (Operand.tmp 7), type := 43, pos := "law.go:136", after := #[], guard := none }) (v := ?vl0) rfl (by kernel_rfl) (by kernel_rfl) (by kernel_rfl) (fun _ _ _ h => h) (Or.inl ⟨by rfl, ?hyl0⟩) hHeld ?_
                        case hyl0 => (intro w hSw; (try dsimp only at hSw); go_simp; (try with_reducible rfl))
                        try simp only [Act.put, List.setIfInBounds_toArray, List.set_cons_zero, List.set_cons_succ]
                        refine wpAnyH_take (i := 1) (oi := { dst := some 201, op := Op.nilCheck (Operand.tmp 200), type := 0, pos := "law.go:136", after := #[{ on := 0, ground := Ground.data }], guard := none }) (v := ?vl1) rfl (by kernel_rfl) (by kernel_rfl) (by kernel_rfl) (fun _ _ _ h => h) (Or.inl ⟨by rfl, ?hyl1⟩) hHeld ?_
                        case hyl1 => (intro w hSw; (try dsimp only at hSw); go_simp; (try with_reducible rfl))
                        try simp only [Act.put, List.setIfInBounds_toArray, List.set_cons_zero, List.set_cons_succ]
                        refine wpAnyH_take (i := 2) (oi := { dst := some 202, op := Op.fieldAddr 62 (Operand.tmp 201) 0, type := 0, pos := "law.go:136", after := #[{ on := 1, ground := Ground.data }], guard := none }) (v := ?vl2) rfl (by kernel_rfl) (by kernel_rfl) (by kernel_rfl) (fun _ _ _ h => h) (Or.inl ⟨by rfl, ?hyl2⟩) hHeld ?_
                        case hyl2 => (intro w hSw; (try dsimp only at hSw); go_simp; (try with_reducible rfl))
                        try simp only [Act.put, List.setIfInBounds_toArray, List.set_cons_zero, List.set_cons_succ]
                        refine wpAnyH_take (i := 3) (oi := { dst := some 203, op := Op.load 56 (Operand.tmp 202), type := 56, pos := "law.go:136", after := #[{ on := 2, ground := Ground.data }], guard := none }) (v := ?vl3) rfl (by kernel_rfl) (by kernel_rfl) (by kernel_rfl) (fun _ _ _ h => h) (Or.inl ⟨by rfl, ?hyl3⟩) hHeld ?_
                        case hyl3 => (intro w hSw; (try dsimp only at hSw); go_simp; (try with_reducible rfl))
                        try simp only [Act.put, List.setIfInBounds_toArray, List.set_cons_zero, List.set_cons_succ]
                        refine wpAnyH_take (i := 4) (oi := { dst := some 204, op := Op.move (Operand.tmp 7), type := 43, pos := "law.go:136", after := #[], guard := none }) (v := ?vl4) rfl (by kernel_rfl) (by kernel_rfl) (by kernel_rfl) (fun _ _ _ h => h) (Or.inl ⟨by rfl, ?hyl4⟩) hHeld ?_
                        case hyl4 => (intro w hSw; (try dsimp only at hSw); go_simp; (try with_reducible rfl))
                        try simp only [Act.put, List.setIfInBounds_toArray, List.set_cons_zero, List.set_cons_succ]
                        refine wpAnyH_take (i := 5) (oi := { dst := some 205, op := Op.nilCheck (Operand.tmp 204), type := 0, pos := "law.go:136", after := #[{ on := 4, ground := Ground.data }], guard := none }) (v := ?vl5) rfl (by kernel_rfl) (by kernel_rfl) (by kernel_rfl) (fun _ _ _ h => h) (Or.inl ⟨by rfl, ?hyl5⟩) hHeld ?_
                        case hyl5 => (intro w hSw; (try dsimp only at hSw); go_simp; (try with_reducible rfl))
                        try simp only [Act.put, List.setIfInBounds_toArray, List.set_cons_zero, List.set_cons_succ]
                        refine wpAnyH_take (i := 6) (oi := { dst := some 206, op := Op.fieldAddr 62 (Operand.tmp 205) 1, type := 0, pos := "law.go:136", after := #[{ on := 5, ground := Ground.data }], guard := none }) (v := ?vl6) rfl (by kernel_rfl) (by kernel_rfl) (by kernel_rfl) (fun _ _ _ h => h) (Or.inl ⟨by rfl, ?hyl6⟩) hHeld ?_
                        case hyl6 => (intro w hSw; (try dsimp only at hSw); go_simp; (try with_reducible rfl))
                        try simp only [Act.put, List.setIfInBounds_toArray, List.set_cons_zero, List.set_cons_succ]
                        refine wpAnyH_take (i := 7) (oi := { dst := some 207, op := Op.load 58 (Operand.tmp 206), type := 58, pos := "law.go:136", after := #[{ on := 6, ground := Ground.data }], guard := none }) (v := ?vl7) rfl (by kernel_rfl) (by kernel_rfl) (by kernel_rfl) (fun _ _ _ h => h) (Or.inl ⟨by rfl, ?hyl7⟩) hHeld ?_
                        case hyl7 => (intro w hSw; (try dsimp only at hSw); go_simp; (try with_reducible rfl))
                        try simp only [Act.put, List.setIfInBounds_toArray, List.set_cons_zero, List.set_cons_succ]
                        refine wpAnyH_take (i := 8) (oi := { dst := some 208, op := Op.move (Operand.tmp 23), type := 3, pos := "law.go:136", after := #[], guard := none }) (v := ?vl8) rfl (by kernel_rfl) (by kernel_rfl) (by kernel_rfl) (fun _ _ _ h => h) (Or.inl ⟨by rfl, ?hyl8⟩) hHeld ?_
                        case hyl8 => (intro w hSw; (try dsimp only at hSw); go_simp; (try with_reducible rfl))
                        try simp only [Act.put, List.setIfInBounds_toArray, List.set_cons_zero, List.set_cons_succ]
                        refine wpAnyH_take (i := 11) (oi := { dst := some 211, op := Op.move (Operand.tmp 9), type := 47, pos := "law.go:136", after := #[], guard := none }) (v := ?vl11) rfl (by kernel_rfl) (by kernel_rfl) (by kernel_rfl) (fun _ _ _ h => h) (Or.inl ⟨by rfl, ?hyl11⟩) hHeld ?_
                        case hyl11 => (intro w hSw; (try dsimp only at hSw); go_simp; (try with_reducible rfl))
                        try simp only [Act.put, List.setIfInBounds_toArray, List.set_cons_zero, List.set_cons_succ]
                        refine wpAnyH_take (i := 12) (oi := { dst := some 212, op := Op.move (Operand.tmp 23), type := 3, pos := "law.go:136", after := #[], guard := none }) (v := ?vl12) rfl (by kernel_rfl) (by kernel_rfl) (by kernel_rfl) (fun _ _ _ h => h) (Or.inl ⟨by rfl, ?hyl12⟩) hHeld ?_
                        case hyl12 => (intro w hSw; (try dsimp only at hSw); go_simp; (try with_reducible rfl))
                        try simp only [Act.put, List.setIfInBounds_toArray, List.set_cons_zero, List.set_cons_succ]
                        refine wpAnyH_ready (rs := [9]) (by kernel_rfl) (by simp) ?_
                        refine AllReadyH.cons (o := { dst := some 209, op := Op.call { callee := Callee.value (Operand.func 28), args := #[Operand.tmp 207, Operand.tmp 208], argTypes := #[58, 3] }, type := 3, pos := "law.go:136", after := #[{ on := 7, ground := Ground.data }, { on := 8, ground := Ground.data }], guard := none }) rfl (fun K hK => ?_) AllReadyH.nil
                        go_simp
                        have HMc0 := Lib.hid HMc.out.drew
                        clear HMc
                        refine (HK1.out _ (HS.out.below HMc0.out.old)).mono ?_
                        rintro e Vc1 ⟨rfl, hb⟩
                        have HMc1 := Lib.hid (HMc0.out.below hb)
                        clear hb HMc0 hHeld y0 y1 y2 y3 y4
                        obtain ⟨y0, ⟨y1, y2, y3, y4⟩, _⟩ := HMc1.out.hand.cells
                        refine hK.out _ _ ?_ (fun hHeld => ?_)
                        · exact ⟨y0, y1, y2, y3, y4⟩
                        clear hK K
                        try simp only [Act.put, List.setIfInBounds_toArray, List.set_cons_zero, List.set_cons_succ]
                        refine wpAnyH_ready (rs := [10]) (by kernel_rfl) (by simp) ?_
                        refine AllReadyH.cons (o := { dst := some 210, op := Op.call { callee := Callee.value (Operand.func 23), args := #[Operand.tmp 203, Operand.tmp 209], argTypes := #[56, 3] }, type := 28, pos := "law.go:136", after := #[{ on := 3, ground := Ground.data }, { on := 9, ground := Ground.data }, { on := 9, ground := Ground.chain }], guard := none }) rfl (fun K hK => ?_) AllReadyH.nil
                        go_simp
                        refine (HK2.out _ HMc1.out.hand.ar).mono ?_
                        rintro e Vc2 ⟨rfl, rfl⟩
                        clear hHeld
                        refine hK.out _ _ ?_ (fun hHeld => ?_)
                        · exact ⟨y0, y1, y2, y3, y4⟩
                        clear hK K
                        try simp only [Act.put, List.setIfInBounds_toArray, List.set_cons_zero, List.set_cons_succ]
                        refine wpAnyH_ready (rs := [13]) (by kernel_rfl) (by simp) ?_
                        refine AllReadyH.cons (o := { dst := some 213, op := Op.call { callee := Callee.value (Operand.func 29), args := #[Operand.tmp 211, Operand.tmp 212], argTypes := #[47, 3] }, type := 28, pos := "law.go:136", after := #[{ on := 11, ground := Ground.data }, { on := 12, ground := Ground.data }, { on := 10, ground := Ground.chain }], guard := none }) rfl (fun K hK => ?_) AllReadyH.nil
                        go_simp
                        refine (HK3.out _ HMc1.out.store).mono ?_
                        rintro e Vc2 ⟨rfl, hb⟩
                        have HMc2 := Lib.hid (HMc1.out.below hb)
                        clear hb HMc1 hHeld y0 y1 y2 y3 y4
                        obtain ⟨y0, ⟨y1, y2, y3, y4⟩, _⟩ := HMc2.out.hand.cells
                        refine hK.out _ _ ?_ (fun hHeld => ?_)
                        · exact ⟨y0, y1, y2, y3, y4⟩
                        clear hK K
                        try simp only [Act.put, List.setIfInBounds_toArray, List.set_cons_zero, List.set_cons_succ]
                        refine wpAnyH_take (i := 14) (oi := { dst := some 214, op := Op.binOp BinOp.neq 28 (Operand.tmp 210) (Operand.tmp 213) 28, type := 4, pos := "law.go:136", after := #[{ on := 10, ground := Ground.data }, { on := 13, ground := Ground.data }], guard := none }) (v := ?vl14) rfl (by kernel_rfl) (by kernel_rfl) (by kernel_rfl) (fun _ _ _ h => h) (Or.inl ⟨by rfl, ?hyl14⟩) hHeld ?_
                        case hyl14 => (intro w hSw; (try dsimp only at hSw); go_simp; (try with_reducible rfl))
                        try simp only [Act.put, List.setIfInBounds_toArray, List.set_cons_zero, List.set_cons_succ]
                        refine wpAnyH_take (i := 15) (oi := { dst := some 215, op := Op.move (Operand.tmp 214), type := 4, pos := "law.go:136", after := #[{ on := 14, ground := Ground.data }, { on := 13, ground := Ground.chain }], guard := none }) (v := ?vl15) rfl (by kernel_rfl) (by kernel_rfl) (by kernel_rfl) (fun _ _ _ h => h) (Or.inl ⟨by rfl, ?hyl15⟩) hHeld ?_
                        case hyl15 => (intro w hSw; (try dsimp only at hSw); go_simp; (try with_reducible rfl))
                        try simp only [Act.put, List.setIfInBounds_toArray, List.set_cons_zero, List.set_cons_succ]
                        refine wpAnyH_take (i := 16) (oi := { dst := some 216, op := Op.move (Operand.tmp 7), type := 43, pos := "law.go:136", after := #[{ on := 15, ground := Ground.guard }], guard := some (15, false) }) (v := ?vl16) rfl (by kernel_rfl) (by kernel_rfl) (by kernel_rfl) (fun _ _ _ h => h) (Or.inl ⟨by rfl, ?hyl16⟩) hHeld ?_
                        case hyl16 => (intro w hSw; (try dsimp only at hSw); go_simp; (try with_reducible rfl))
                        try simp only [Act.put, List.setIfInBounds_toArray, List.set_cons_zero, List.set_cons_succ]
                        refine wpAnyH_take (i := 17) (oi := { dst := some 217, op := Op.nilCheck (Operand.tmp 216), type := 0, pos := "law.go:136", after := #[{ on := 16, ground := Ground.data }, { on := 15, ground := Ground.guard }], guard := some (15, false) }) (v := ?vl17) rfl (by kernel_rfl) (by kernel_rfl) (by kernel_rfl) (fun _ _ _ h => h) (Or.inl ⟨by rfl, ?hyl17⟩) hHeld ?_
                        case hyl17 => (intro w hSw; (try dsimp only at hSw); go_simp; (try with_reducible rfl))
                        try simp only [Act.put, List.setIfInBounds_toArray, List.set_cons_zero, List.set_cons_succ]
                        refine wpAnyH_take (i := 18) (oi := { dst := some 218, op := Op.fieldAddr 62 (Operand.tmp 217) 0, type := 0, pos := "law.go:136", after := #[{ on := 17, ground := Ground.data }, { on := 15, ground := Ground.guard }], guard := some (15, false) }) (v := ?vl18) rfl (by kernel_rfl) (by kernel_rfl) (by kernel_rfl) (fun _ _ _ h => h) (Or.inl ⟨by rfl, ?hyl18⟩) hHeld ?_
                        case hyl18 => (intro w hSw; (try dsimp only at hSw); go_simp; (try with_reducible rfl))
                        try simp only [Act.put, List.setIfInBounds_toArray, List.set_cons_zero, List.set_cons_succ]
                        refine wpAnyH_take (i := 19) (oi := { dst := some 219, op := Op.load 56 (Operand.tmp 218), type := 56, pos := "law.go:136", after := #[{ on := 18, ground := Ground.data }, { on := 15, ground := Ground.guard }], guard := some (15, false) }) (v := ?vl19) rfl (by kernel_rfl) (by kernel_rfl) (by kernel_rfl) (fun _ _ _ h => h) (Or.inl ⟨by rfl, ?hyl19⟩) hHeld ?_
                        case hyl19 => (intro w hSw; (try dsimp only at hSw); go_simp; (try with_reducible rfl))
                        try simp only [Act.put, List.setIfInBounds_toArray, List.set_cons_zero, List.set_cons_succ]
                        refine wpAnyH_take (i := 20) (oi := { dst := some 220, op := Op.move (Operand.tmp 7), type := 43, pos := "law.go:136", after := #[{ on := 15, ground := Ground.guard }], guard := some (15, false) }) (v := ?vl20) rfl (by kernel_rfl) (by kernel_rfl) (by kernel_rfl) (fun _ _ _ h => h) (Or.inl ⟨by rfl, ?hyl20⟩) hHeld ?_
                        case hyl20 => (intro w hSw; (try dsimp only at hSw); go_simp; (try with_reducible rfl))
                        try simp only [Act.put, List.setIfInBounds_toArray, List.set_cons_zero, List.set_cons_succ]
                        refine wpAnyH_take (i := 21) (oi := { dst := some 221, op := Op.nilCheck (Operand.tmp 220), type := 0, pos := "law.go:136", after := #[{ on := 20, ground := Ground.data }, { on := 15, ground := Ground.guard }], guard := some (15, false) }) (v := ?vl21) rfl (by kernel_rfl) (by kernel_rfl) (by kernel_rfl) (fun _ _ _ h => h) (Or.inl ⟨by rfl, ?hyl21⟩) hHeld ?_
                        case hyl21 => (intro w hSw; (try dsimp only at hSw); go_simp; (try with_reducible rfl))
                        try simp only [Act.put, List.setIfInBounds_toArray, List.set_cons_zero, List.set_cons_succ]
                        refine wpAnyH_take (i := 22) (oi := { dst := some 222, op := Op.fieldAddr 62 (Operand.tmp 221) 1, type := 0, pos := "law.go:136", after := #[{ on := 21, ground := Ground.data }, { on := 15, ground := Ground.guard }], guard := some (15, false) }) (v := ?vl22) rfl (by kernel_rfl) (by kernel_rfl) (by kernel_rfl) (fun _ _ _ h => h) (Or.inl ⟨by rfl, ?hyl22⟩) hHeld ?_
                        case hyl22 => (intro w hSw; (try dsimp only at hSw); go_simp; (try with_reducible rfl))
                        try simp only [Act.put, List.setIfInBounds_toArray, List.set_cons_zero, List.set_cons_succ]
                        refine wpAnyH_take (i := 23) (oi := { dst := some 223, op := Op.load 58 (Operand.tmp 222), type := 58, pos := "law.go:136", after := #[{ on := 22, ground := Ground.data }, { on := 15, ground := Ground.guard }], guard := some (15, false) }) (v := ?vl23) rfl (by kernel_rfl) (by kernel_rfl) (by kernel_rfl) (fun _ _ _ h => h) (Or.inl ⟨by rfl, ?hyl23⟩) hHeld ?_
                        case hyl23 => (intro w hSw; (try dsimp only at hSw); go_simp; (try with_reducible rfl))
                        try simp only [Act.put, List.setIfInBounds_toArray, List.set_cons_zero, List.set_cons_succ]
                        refine wpAnyH_take (i := 24) (oi := { dst := some 224, op := Op.move (Operand.tmp 23), type := 3, pos := "law.go:136", after := #[{ on := 15, ground := Ground.guard }], guard := some (15, false) }) (v := ?vl24) rfl (by kernel_rfl) (by kernel_rfl) (by kernel_rfl) (fun _ _ _ h => h) (Or.inl ⟨by rfl, ?hyl24⟩) hHeld ?_
                        case hyl24 => (intro w hSw; (try dsimp only at hSw); go_simp; (try with_reducible rfl))
                        try simp only [Act.put, List.setIfInBounds_toArray, List.set_cons_zero, List.set_cons_succ]
                        refine wpAnyH_take (i := 27) (oi := { dst := some 227, op := Op.move (Operand.tmp 9), type := 47, pos := "law.go:136", after := #[{ on := 15, ground := Ground.guard }], guard := some (15, false) }) (v := ?vl27) rfl (by kernel_rfl) (by kernel_rfl) (by kernel_rfl) (fun _ _ _ h => h) (Or.inl ⟨by rfl, ?hyl27⟩) hHeld ?_
                        case hyl27 => (intro w hSw; (try dsimp only at hSw); go_simp; (try with_reducible rfl))
                        try simp only [Act.put, List.setIfInBounds_toArray, List.set_cons_zero, List.set_cons_succ]
                        refine wpAnyH_take (i := 28) (oi := { dst := some 228, op := Op.move (Operand.tmp 23), type := 3, pos := "law.go:136", after := #[{ on := 15, ground := Ground.guard }], guard := some (15, false) }) (v := ?vl28) rfl (by kernel_rfl) (by kernel_rfl) (by kernel_rfl) (fun _ _ _ h => h) (Or.inl ⟨by rfl, ?hyl28⟩) hHeld ?_
                        case hyl28 => (intro w hSw; (try dsimp only at hSw); go_simp; (try with_reducible rfl))
                        try simp only [Act.put, List.setIfInBounds_toArray, List.set_cons_zero, List.set_cons_succ]
                        refine wpAnyH_ready (rs := [25]) (by kernel_rfl) (by simp) ?_
                        refine AllReadyH.cons (o := { dst := some 225, op := Op.call { callee := Callee.value (Operand.func 30), args := #[Operand.tmp 223, Operand.tmp 224], argTypes := #[58, 3] }, type := 3, pos := "law.go:136", after := #[{ on := 23, ground := Ground.data }, { on := 24, ground := Ground.data }, { on := 15, ground := Ground.chain }, { on := 15, ground := Ground.guard }], guard := some (15, false) }) rfl (fun K hK => ?_) AllReadyH.nil
                        go_simp
                        refine (HK4.out _ (HS.out.below HMc2.out.old)).mono ?_
                        rintro e Vc3 ⟨rfl, hb⟩
                        have HMc3 := Lib.hid (HMc2.out.below hb)
                        clear hb HMc2 hHeld y0 y1 y2 y3 y4
                        obtain ⟨y0, ⟨y1, y2, y3, y4⟩, _⟩ := HMc3.out.hand.cells
                        refine hK.out _ _ ?_ (fun hHeld => ?_)
                        · exact ⟨y0, y1, y2, y3, y4⟩
                        clear hK K
                        try simp only [Act.put, List.setIfInBounds_toArray, List.set_cons_zero, List.set_cons_succ]
                        refine wpAnyH_ready (rs := [26]) (by kernel_rfl) (by simp) ?_
                        refine AllReadyH.cons (o := { dst := some 226, op := Op.call { callee := Callee.value (Operand.func 23), args := #[Operand.tmp 219, Operand.tmp 225], argTypes := #[56, 3] }, type := 28, pos := "law.go:136", after := #[{ on := 19, ground := Ground.data }, { on := 25, ground := Ground.data }, { on := 25, ground := Ground.chain }, { on := 15, ground := Ground.guard }], guard := some (15, false) }) rfl (fun K hK => ?_) AllReadyH.nil
                        go_simp
                        refine (HK5.out _ HMc3.out.hand.ar).mono ?_
                        rintro e Vc4 ⟨rfl, rfl⟩
                        clear hHeld
                        refine hK.out _ _ ?_ (fun hHeld => ?_)
                        · exact ⟨y0, y1, y2, y3, y4⟩
                        clear hK K
                        try simp only [Act.put, List.setIfInBounds_toArray, List.set_cons_zero, List.set_cons_succ]
                        refine wpAnyH_ready (rs := [29]) (by kernel_rfl) (by simp) ?_
                        refine AllReadyH.cons (o := { dst := some 229, op := Op.call { callee := Callee.value (Operand.func 31), args := #[Operand.tmp 227, Operand.tmp 228], argTypes := #[47, 3] }, type := 28, pos := "law.go:136", after := #[{ on := 27, ground := Ground.data }, { on := 28, ground := Ground.data }, { on := 26, ground := Ground.chain }, { on := 15, ground := Ground.guard }], guard := some (15, false) }) rfl (fun K hK => ?_) AllReadyH.nil
                        go_simp
                        refine (HK6.out _ HMc3.out.store).mono ?_
                        rintro e Vc4 ⟨rfl, hb⟩
                        have HMc4 := Lib.hid (HMc3.out.below hb)
                        clear hb HMc3 hHeld y0 y1 y2 y3 y4
                        obtain ⟨y0, ⟨y1, y2, y3, y4⟩, _⟩ := HMc4.out.hand.cells
                        refine hK.out _ _ ?_ (fun hHeld => ?_)
                        · exact ⟨y0, y1, y2, y3, y4⟩
                        clear hK K
                        try simp only [Act.put, List.setIfInBounds_toArray, List.set_cons_zero, List.set_cons_succ]
                        refine wpAnyH_take (i := 30) (oi := { dst := some 230, op := Op.binOp BinOp.neq 28 (Operand.tmp 226) (Operand.tmp 229) 28, type := 4, pos := "law.go:136", after := #[{ on := 26, ground := Ground.data }, { on := 29, ground := Ground.data }, { on := 15, ground := Ground.guard }], guard := some (15, false) }) (v := ?vl30) rfl (by kernel_rfl) (by kernel_rfl) (by kernel_rfl) (fun _ _ _ h => h) (Or.inl ⟨by rfl, ?hyl30⟩) hHeld ?_
                        case hyl30 => (intro w hSw; (try dsimp only at hSw); go_simp; (try with_reducible rfl))
                        try simp only [Act.put, List.setIfInBounds_toArray, List.set_cons_zero, List.set_cons_succ]
                        refine wpAnyH_take (i := 31) (oi := { dst := some 231, op := Op.pick (Operand.tmp 215) (Operand.const (Value.bool true)) (Operand.tmp 230), type := 4, pos := "law.go:136", after := #[{ on := 15, ground := Ground.data }, { on := 30, ground := Ground.data }], guard := none }) (v := ?vl31) rfl (by kernel_rfl) (by kernel_rfl) (by kernel_rfl) (fun _ _ _ h => h) (Or.inl ⟨by rfl, ?hyl31⟩) hHeld ?_
                        case hyl31 => (intro w hSw; (try dsimp only at hSw); go_simp; (try with_reducible rfl))
                        try simp only [Act.put, List.setIfInBounds_toArray, List.set_cons_zero, List.set_cons_succ]
                        refine wpAnyH_done (by kernel_rfl) ?_ _
                        clear hHeld y0 y1 y2 y3 y4 HK1 HK2 HK3 HK4 HK5 HK6
                        go_wp2_with fail
                        go_roundw
                        case rel => exact ⟨k6 + 1, by go_num, by omega, HMc4⟩
                        case measure => simp [intOf]; omega
                      · have hkn : ¬ (k6 : Int) < (σ'.n : Int) := by omega
                        go_wp2_with fail
                        refine (HLn.out _ HMc.out.store).mono ?_
                        rintro e V6 ⟨rfl, rfl⟩
                        clear HLn
                        go_wp2_with fail
                        go_roundw
                        case rel => exact ⟨i + 1, v', s', σ', by go_num, by omega, HMc, HP'⟩
                        case measure => simp [intOf]; omega
    · go_wp2_with fail
      go_ret
      exact ⟨rfl, HM.out.old⟩
end Go.Proofs.YtbpkdihonemogaaGreatDoor
