/- What Step's closures do; what an in says. -/
import Derived.Test.YtbpooljohjkbjaaGreatDoorM11
import Derived.Test.YtbpooljohjkbjaaGreatDoorPlaceAt
import Derived.Test.YtbpooljohjkbjaaGreatDoorM4
import Derived.Deep.CutRange
namespace Go.Proofs.YtbpooljohjkbjaaGreatDoor
open Go Go.RowKit
set_option maxRecDepth 100000
attribute [local go_sem ↓] Go.wp_at_zero Go.wp_at_succ
theorem Says_c (u : Nat) (_ : u < 18446744073709551616) (w : World) :
    Calls Tryz.prog 175 #[.int .u64 (u : Int)] w fun e w' => e = .returned (.int .u64 ((u % 4 : Nat) : Int)) ∧ w = w' := by
  have ht : ((u : Int) % 4) = ((u % 4 : Nat) : Int) := by omega
  go_enter Tryz.func175, Tryz.ntmps175
  go_wp2_with fail
  go_ret
  exact ⟨by simp, rfl⟩
theorem mayWait_c (u : Nat) (hu : u < 18446744073709551616) (w : World) :
    Calls Tryz.prog 174 #[.int .u64 (u : Int)] w fun e w' => e = .returned (.bool (decide (u % 4 = 1 ∨ u % 4 = 3))) ∧ w = w' := by
  have HY : Hid (∀ W, Calls Tryz.prog 175 #[.int .u64 (u : Int)] W fun e w' => e = .returned (.int .u64 ((u % 4 : Nat) : Int)) ∧ W = w') := Lib.hid (fun W => Says_c u hu W)
  clear hu
  generalize u % 4 = q at *
  by_cases h1 : q = 1
  · subst h1
    rw [show decide ((1 : Nat) = 1 ∨ (1 : Nat) = 3) = true from rfl]
    go_enter Tryz.func174, Tryz.ntmps174
    go_wp2_with fail
    refine (HY.out _).mono ?_
    rintro e V1 ⟨rfl, rfl⟩
    clear HY
    go_wp2_with fail
    go_ret
    exact ⟨rfl, rfl⟩
  by_cases h3 : q = 3
  · subst h3
    rw [show decide ((3 : Nat) = 1 ∨ (3 : Nat) = 3) = true from rfl]
    go_enter Tryz.func174, Tryz.ntmps174
    go_wp2_with fail
    refine (HY.out _).mono ?_
    rintro e V1 ⟨rfl, rfl⟩
    clear HY
    go_wp2_with fail
    go_ret
    exact ⟨rfl, rfl⟩
  rw [show decide (q = 1 ∨ q = 3) = false from decide_eq_false (by omega)]
  have e1 : ((q : Int) == 1) = false := by simp; omega
  have e3 : ((q : Int) == 3) = false := by simp; omega
  clear h1 h3
  go_enter Tryz.func174, Tryz.ntmps174
  go_wp2_with fail
  refine (HY.out _).mono ?_
  rintro e V1 ⟨rfl, rfl⟩
  clear HY
  go_wp2_with fail
  go_ret
  exact ⟨rfl, rfl⟩
theorem isOut_c (u : Nat) (hu : u < 18446744073709551616) (w : World) :
    Calls Tryz.prog 176 #[.int .u64 (u : Int)] w fun e w' => e = .returned (.bool (decide (u % 4 = 0 ∨ u % 4 = 3))) ∧ w = w' := by
  have HY : Hid (∀ W, Calls Tryz.prog 175 #[.int .u64 (u : Int)] W fun e w' => e = .returned (.int .u64 ((u % 4 : Nat) : Int)) ∧ W = w') := Lib.hid (fun W => Says_c u hu W)
  clear hu
  generalize u % 4 = q at *
  by_cases h0 : q = 0
  · subst h0
    rw [show decide ((0 : Nat) = 0 ∨ (0 : Nat) = 3) = true from rfl]
    go_enter Tryz.func176, Tryz.ntmps176
    go_wp2_with fail
    refine (HY.out _).mono ?_
    rintro e V1 ⟨rfl, rfl⟩
    clear HY
    go_wp2_with fail
    go_ret
    exact ⟨rfl, rfl⟩
  by_cases h3 : q = 3
  · subst h3
    rw [show decide ((3 : Nat) = 0 ∨ (3 : Nat) = 3) = true from rfl]
    go_enter Tryz.func176, Tryz.ntmps176
    go_wp2_with fail
    refine (HY.out _).mono ?_
    rintro e V1 ⟨rfl, rfl⟩
    clear HY
    go_wp2_with fail
    go_ret
    exact ⟨rfl, rfl⟩
  rw [show decide (q = 0 ∨ q = 3) = false from decide_eq_false (by omega)]
  have e0 : ((q : Int) == 0) = false := by simp; omega
  have e3 : ((q : Int) == 3) = false := by simp; omega
  clear h0 h3
  go_enter Tryz.func176, Tryz.ntmps176
  go_wp2_with fail
  refine (HY.out _).mono ?_
  rintro e V1 ⟨rfl, rfl⟩
  clear HY
  go_wp2_with fail
  go_ret
  exact ⟨rfl, rfl⟩
theorem sav_cell {w w' : World} {H G : Nat} (hs : Sav (HG H G) w w') {Kh j : Nat} {v : Value} (hl : Kh < w.heap.size) (h1 : Kh ≠ H) (h2 : Kh ≠ G) (h : w.cell? ⟨Kh, j, none⟩ = some v) : w'.cell? ⟨Kh, j, none⟩ = some v := by
  have hb := hs.block Kh hl (fun e => e.elim h1 h2)
  unfold World.cell? at *
  rw [hb]; exact h
theorem cellOfBelow {w w' : World} (hb : Below w.heap.size w w') {Kh j : Nat} {v : Value} (hl : Kh < w.heap.size) (h : w.cell? ⟨Kh, j, none⟩ = some v) : w'.cell? ⟨Kh, j, none⟩ = some v := by
  have hb := hb.block Kh hl
  unfold World.cell? at *
  rw [hb]; exact h
theorem in_c {w : World} {H A G : Nat} {C : Cf} {s : Dy} (hH : HAt w H A G C s) (hu : s.U) (hS : SpansAt w)  {Kh X : Nat} (hk : w.cell? ⟨Kh, 0, none⟩ = some (.pointer (some ⟨H, 0, none⟩))) (hkl : Kh ≠ H) (hkg : Kh ≠ G) {m : Int} (hx : w.cell? ⟨X, 3, none⟩ = some (.int .i64 m)) (hxl : X ≠ H) (hxg : X ≠ G) :
    Calls Tryz.prog 172 #[.pointer (some ⟨Kh, 0, none⟩), .pointer (some ⟨X, 0, none⟩)] w (HP w H A G C (s.act C 1 (inP C.a C.b C.c C.d m) 0 0) (.int .u64 (z5 C.n 1 (inP C.a C.b C.c C.d m) (s.f (inP C.a C.b C.c C.d m).toNat)))) := by
  have HI : Hid (∀ W, SpansAt W → Calls Tryz.prog 138 #[(.agg #[.int .i64 C.a, .int .i64 C.b, .int .i64 C.c, .int .i64 C.d]), .int .i64 m] W fun e w' => e = .returned (.int .i64 (inP C.a C.b C.c C.d m)) ∧ Below W.heap.size W w') := Lib.hid (fun W hW => In_c C.a C.b C.c C.d m W hW)
  generalize (inP C.a C.b C.c C.d m) = P at *
  have HD : Hid (∀ W, HAt W H A G C s → Calls Tryz.prog 123 #[.pointer (some ⟨H, 0, none⟩), .int .i64 P] W (HP W H A G C (s.act C 1 P 0 0) (.int .u64 (z5 C.n 1 P (s.f P.toNat))))) := Lib.hid (fun W hW => hLoad_c (w := W) hW hu P)
  generalize (s.act C 1 P 0 0) = s' at *
  generalize (z5 C.n 1 P (s.f P.toNat)) = T at *
  have HF := Lib.hid hH; have HS := Lib.hid hS
  have hkz := lt_of_cell hk; have hxz := lt_of_cell hx
  obtain ⟨_, ⟨h1, h2, h3, h4⟩, _⟩ := hH.cells
  clear hH hu hS
  go_enter Tryz.func172, Tryz.ntmps172
  go_wp2_with fail
  refine wp_region_held_drew (S := (fun w' => w'.cell? ⟨Kh, 0, none⟩ = some (.pointer (some ⟨H, 0, none⟩)) ∧ w'.cell? ⟨X, 3, none⟩ = some (.int .i64 m) ∧ w'.cell? ⟨H, 1, none⟩ = some (.int .i64 C.a) ∧ w'.cell? ⟨H, 2, none⟩ = some (.int .i64 C.b) ∧ w'.cell? ⟨H, 3, none⟩ = some (.int .i64 C.c) ∧ w'.cell? ⟨H, 4, none⟩ = some (.int .i64 C.d))) (by kernel_rfl) ?_ (fun hHeld => ?_)
  · exact ⟨hk, hx, h1, h2, h3, h4⟩
  refine wpAnyH_take (i := 0) (oi := { dst := some 3, op := Op.load 70 (Operand.tmp 0), type := 70, pos := "bar.go:34", after := #[], guard := none }) (v := ?vi0) rfl (by kernel_rfl) (by kernel_rfl) (by kernel_rfl) (fun _ _ _ h => h) (Or.inl ⟨by rfl, ?hyi0⟩) hHeld ?_
  case hyi0 => (intro w hSw; (try dsimp only at hSw); go_simp; (try with_reducible rfl))
  try simp only [Act.put, List.setIfInBounds_toArray, List.set_cons_zero, List.set_cons_succ]
  refine wpAnyH_take (i := 1) (oi := { dst := some 4, op := Op.load 70 (Operand.tmp 0), type := 70, pos := "bar.go:34", after := #[], guard := none }) (v := ?vi1) rfl (by kernel_rfl) (by kernel_rfl) (by kernel_rfl) (fun _ _ _ h => h) (Or.inl ⟨by rfl, ?hyi1⟩) hHeld ?_
  case hyi1 => (intro w hSw; (try dsimp only at hSw); go_simp; (try with_reducible rfl))
  try simp only [Act.put, List.setIfInBounds_toArray, List.set_cons_zero, List.set_cons_succ]
  refine wpAnyH_take (i := 2) (oi := { dst := some 5, op := Op.nilCheck (Operand.tmp 4), type := 0, pos := "bar.go:34", after := #[{ on := 1, ground := Ground.data }], guard := none }) (v := ?vi2) rfl (by kernel_rfl) (by kernel_rfl) (by kernel_rfl) (fun _ _ _ h => h) (Or.inl ⟨by rfl, ?hyi2⟩) hHeld ?_
  case hyi2 => (intro w hSw; (try dsimp only at hSw); go_simp; (try with_reducible rfl))
  try simp only [Act.put, List.setIfInBounds_toArray, List.set_cons_zero, List.set_cons_succ]
  refine wpAnyH_take (i := 3) (oi := { dst := some 6, op := Op.fieldAddr 90 (Operand.tmp 5) 1, type := 0, pos := "bar.go:34", after := #[{ on := 2, ground := Ground.data }], guard := none }) (v := ?vi3) rfl (by kernel_rfl) (by kernel_rfl) (by kernel_rfl) (fun _ _ _ h => h) (Or.inl ⟨by rfl, ?hyi3⟩) hHeld ?_
  case hyi3 => (intro w hSw; (try dsimp only at hSw); go_simp; (try with_reducible rfl))
  try simp only [Act.put, List.setIfInBounds_toArray, List.set_cons_zero, List.set_cons_succ]
  refine wpAnyH_take (i := 4) (oi := { dst := some 7, op := Op.load 88 (Operand.tmp 6), type := 88, pos := "bar.go:34", after := #[{ on := 3, ground := Ground.data }], guard := none }) (v := ?vi4) rfl (by kernel_rfl) (by kernel_rfl) (by kernel_rfl) (fun _ _ _ h => h) (Or.inl ⟨by rfl, ?hyi4⟩) hHeld ?_
  case hyi4 => (intro w hSw; (try dsimp only at hSw); go_simp; (try with_reducible rfl))
  try simp only [Act.put, List.setIfInBounds_toArray, List.set_cons_zero, List.set_cons_succ]
  refine wpAnyH_take (i := 5) (oi := { dst := some 8, op := Op.fieldAddr 49 (Operand.tmp 1) 3, type := 0, pos := "bar.go:34", after := #[], guard := none }) (v := ?vi5) rfl (by kernel_rfl) (by kernel_rfl) (by kernel_rfl) (fun _ _ _ h => h) (Or.inl ⟨by rfl, ?hyi5⟩) hHeld ?_
  case hyi5 => (intro w hSw; (try dsimp only at hSw); go_simp; (try with_reducible rfl))
  try simp only [Act.put, List.setIfInBounds_toArray, List.set_cons_zero, List.set_cons_succ]
  refine wpAnyH_take (i := 6) (oi := { dst := some 9, op := Op.load 3 (Operand.tmp 8), type := 3, pos := "bar.go:34", after := #[{ on := 5, ground := Ground.data }], guard := none }) (v := ?vi6) rfl (by kernel_rfl) (by kernel_rfl) (by kernel_rfl) (fun _ _ _ h => h) (Or.inl ⟨by rfl, ?hyi6⟩) hHeld ?_
  case hyi6 => (intro w hSw; (try dsimp only at hSw); go_simp; (try with_reducible rfl))
  try simp only [Act.put, List.setIfInBounds_toArray, List.set_cons_zero, List.set_cons_succ]
  refine wpAnyH_ready (rs := [7]) (by kernel_rfl) (by simp) ?_
  refine AllReadyH.cons (o := { dst := some 10, op := Op.call { callee := Callee.value (Operand.func 138), args := #[Operand.tmp 7, Operand.tmp 9], argTypes := #[88, 3] }, type := 3, pos := "bar.go:34", after := #[{ on := 4, ground := Ground.data }, { on := 6, ground := Ground.data }], guard := none }) rfl (fun K hK => ?_) AllReadyH.nil
  go_simp
  have HF1 := Lib.hid HF.out.drew; have HS1 := Lib.hid (SpansAt.below HS.out (Below.refl _ w).drew)
  have hk1 := (show w.drew.cell? ⟨Kh, 0, none⟩ = _ from hk); have hx1 := (show w.drew.cell? ⟨X, 3, none⟩ = _ from hx)
  have hd := (Below.refl w.heap.size w).drew
  have hkz1 : Kh < w.drew.heap.size := hkz; have hxz1 : X < w.drew.heap.size := hxz
  clear hHeld HF HS hk hx h1 h2 h3 h4 hkz hxz
  generalize w.drew = w1 at *
  refine (HI.out _ HS1.out).mono ?_
  rintro e V1 ⟨rfl, hb⟩
  have HF2 := Lib.hid (HF1.out.below hb); have HB := Lib.hid (belowOn hd hb)
  have hk := cellOfBelow hb hkz1 hk1; have hx := cellOfBelow hb hxz1 hx1
  clear HI HF1 HS1 hk1 hx1 hkz1 hxz1 hd hb
  obtain ⟨_, ⟨h1, h2, h3, h4⟩, _⟩ := HF2.out.cells
  refine hK.out _ _ ?_ (fun hHeld => ?_)
  · exact ⟨hk, hx, h1, h2, h3, h4⟩
  clear hK K
  try simp only [Act.put, List.setIfInBounds_toArray, List.set_cons_zero, List.set_cons_succ]
  refine wpAnyH_ready (rs := [8]) (by kernel_rfl) (by simp) ?_
  refine AllReadyH.cons (o := { dst := some 11, op := Op.call { callee := Callee.value (Operand.func 123), args := #[Operand.tmp 3, Operand.tmp 10], argTypes := #[70, 3] }, type := 36, pos := "bar.go:34", after := #[{ on := 0, ground := Ground.data }, { on := 7, ground := Ground.data }, { on := 7, ground := Ground.chain }], guard := none }) rfl (fun K hK => ?_) AllReadyH.nil
  go_simp
  have hkz := lt_of_cell hk; have hxz := lt_of_cell hx
  refine (HD.out _ HF2.out).mono ?_
  rintro e V2 ⟨rfl, hF, hs⟩
  have HF3 := Lib.hid hF; have HQ := Lib.hid (Sav.trans (Sav.of (S := HG H G) HB.out) hs)
  have hk3 := sav_cell hs hkz hkl hkg hk; have hx3 := sav_cell hs hxz hxl hxg hx
  clear hHeld HD HF2 HB hk hx h1 h2 h3 h4 hkz hxz hF hs
  obtain ⟨_, ⟨h1, h2, h3, h4⟩, _⟩ := HF3.out.cells
  refine hK.out _ _ ?_ (fun hHeld => ?_)
  · exact ⟨hk3, hx3, h1, h2, h3, h4⟩
  clear hK K
  try simp only [Act.put, List.setIfInBounds_toArray, List.set_cons_zero, List.set_cons_succ]
  refine wpAnyH_take (i := 9) (oi := { dst := some 2, op := Op.assign (Operand.tmp 11), type := 36, pos := "bar.go:34", after := #[{ on := 8, ground := Ground.data }, { on := 8, ground := Ground.chain }, { on := 0, ground := Ground.phase }, { on := 1, ground := Ground.phase }, { on := 2, ground := Ground.phase }, { on := 3, ground := Ground.phase }, { on := 4, ground := Ground.phase }, { on := 5, ground := Ground.phase }, { on := 6, ground := Ground.phase }, { on := 7, ground := Ground.phase }, { on := 8, ground := Ground.phase }], guard := none }) (v := ?vi9) rfl (by kernel_rfl) (by kernel_rfl) (by kernel_rfl) (fun _ _ _ h => h) (Or.inl ⟨by rfl, ?hyi9⟩) hHeld ?_
  case hyi9 => (intro w hSw; (try dsimp only at hSw); go_simp; (try with_reducible rfl))
  try simp only [Act.put, List.setIfInBounds_toArray, List.set_cons_zero, List.set_cons_succ]
  refine wpAnyH_done (by kernel_rfl) ?_ _
  clear hHeld h1 h2 h3 h4 hk3 hx3
  go_wp2_with fail
  go_ret
  exact ⟨rfl, HF3.out, HQ.out⟩
set_option maxHeartbeats 1600000 in
theorem go_more {w V : World} {Kh X Y H A G : Nat} {C : Cf} {s : Dy} (l j c m a p : Int) (fd : Bool) (tl cy : Int) (HC : ColK w V Kh X Y H A G C s ⟨l, j, c, m, a, p, fd, tl, cy⟩) (hm : -1000000000000 ≤ m ∧ m ≤ 1000000000000) (h1 : m < C.b) (h2 : m + 1 < C.b) (n q : Int) :
    Calls Tryz.prog 173 #[.int .i64 n, .int .i64 q, .pointer (some ⟨X, 0, none⟩), .pointer (some ⟨Kh, 0, none⟩)] V fun e w' => e = .returned (.tuple #[]) ∧ ColK w w' Kh X Y H A G C s ⟨n, j, c, (m + 1), a, p, fd, tl, cy⟩ := by
  have HC0 := Lib.hid HC
  have hw1 : IntKind.i64.wrap (m + 1) = m + 1 := IntWalk.i64_in _ (by omega)
  have d1 : decide (m < C.b) = true := decide_eq_true h1
  have d2 : decide (m + 1 < C.b) = true := decide_eq_true h2
  have hK := HC.cellK
  clear HC hm h1 h2
  obtain ⟨a0, a1, a2, a3, a4, a5, a6, a7, a8, af⟩ := HC0.out.cells
  dsimp only at a0 a1 a2 a3 a4 a5 a6 a7 a8
  obtain ⟨_, ⟨_, k2, _, _⟩, _⟩ := HC0.out.hand.cells
  go_enter Tryz.func173, Tryz.ntmps173
  go_upto_region 0 with fail
  refine wp_region_held_drew (S := (fun w' => w'.cell? ⟨Kh, 0, none⟩ = some (.pointer (some ⟨H, 0, none⟩)) ∧ w'.cell? ⟨X, 3, none⟩ = some (.int .i64 m) ∧ w'.cell? ⟨H, 2, none⟩ = some (.int .i64 C.b))) (by kernel_rfl) ?_ (fun hHeld => ?_)
  · exact ⟨hK, a3, k2⟩
  refine wpAnyH_take (i := 0) (oi := { dst := some 6, op := Op.fieldAddr 49 (Operand.tmp 2) 3, type := 0, pos := "bar.go:37", after := #[], guard := none }) (v := ?vg0) rfl (by kernel_rfl) (by kernel_rfl) (by kernel_rfl) (fun _ _ _ h => h) (Or.inl ⟨by rfl, ?hyg0⟩) hHeld ?_
  case hyg0 => (intro w hSw; (try dsimp only at hSw); go_simp; (try with_reducible rfl))
  try simp only [Act.put, List.setIfInBounds_toArray, List.set_cons_zero, List.set_cons_succ]
  refine wpAnyH_take (i := 1) (oi := { dst := some 7, op := Op.load 3 (Operand.tmp 6), type := 3, pos := "bar.go:37", after := #[{ on := 0, ground := Ground.data }], guard := none }) (v := ?vg1) rfl (by kernel_rfl) (by kernel_rfl) (by kernel_rfl) (fun _ _ _ h => h) (Or.inl ⟨by rfl, ?hyg1⟩) hHeld ?_
  case hyg1 => (intro w hSw; (try dsimp only at hSw); go_simp; (try with_reducible rfl))
  try simp only [Act.put, List.setIfInBounds_toArray, List.set_cons_zero, List.set_cons_succ]
  refine wpAnyH_take (i := 2) (oi := { dst := some 8, op := Op.load 70 (Operand.tmp 3), type := 70, pos := "bar.go:37", after := #[], guard := none }) (v := ?vg2) rfl (by kernel_rfl) (by kernel_rfl) (by kernel_rfl) (fun _ _ _ h => h) (Or.inl ⟨by rfl, ?hyg2⟩) hHeld ?_
  case hyg2 => (intro w hSw; (try dsimp only at hSw); go_simp; (try with_reducible rfl))
  try simp only [Act.put, List.setIfInBounds_toArray, List.set_cons_zero, List.set_cons_succ]
  refine wpAnyH_take (i := 3) (oi := { dst := some 9, op := Op.nilCheck (Operand.tmp 8), type := 0, pos := "bar.go:37", after := #[{ on := 2, ground := Ground.data }], guard := none }) (v := ?vg3) rfl (by kernel_rfl) (by kernel_rfl) (by kernel_rfl) (fun _ _ _ h => h) (Or.inl ⟨by rfl, ?hyg3⟩) hHeld ?_
  case hyg3 => (intro w hSw; (try dsimp only at hSw); go_simp; (try with_reducible rfl))
  try simp only [Act.put, List.setIfInBounds_toArray, List.set_cons_zero, List.set_cons_succ]
  refine wpAnyH_take (i := 4) (oi := { dst := some 10, op := Op.fieldAddr 90 (Operand.tmp 9) 1, type := 0, pos := "bar.go:37", after := #[{ on := 3, ground := Ground.data }], guard := none }) (v := ?vg4) rfl (by kernel_rfl) (by kernel_rfl) (by kernel_rfl) (fun _ _ _ h => h) (Or.inl ⟨by rfl, ?hyg4⟩) hHeld ?_
  case hyg4 => (intro w hSw; (try dsimp only at hSw); go_simp; (try with_reducible rfl))
  try simp only [Act.put, List.setIfInBounds_toArray, List.set_cons_zero, List.set_cons_succ]
  refine wpAnyH_take (i := 5) (oi := { dst := some 11, op := Op.fieldAddr 88 (Operand.tmp 10) 0, type := 0, pos := "bar.go:37", after := #[{ on := 4, ground := Ground.data }], guard := none }) (v := ?vg5) rfl (by kernel_rfl) (by kernel_rfl) (by kernel_rfl) (fun _ _ _ h => h) (Or.inl ⟨by rfl, ?hyg5⟩) hHeld ?_
  case hyg5 => (intro w hSw; (try dsimp only at hSw); go_simp; (try with_reducible rfl))
  try simp only [Act.put, List.setIfInBounds_toArray, List.set_cons_zero, List.set_cons_succ]
  refine wpAnyH_take (i := 6) (oi := { dst := some 12, op := Op.fieldAddr 23 (Operand.tmp 11) 1, type := 0, pos := "bar.go:37", after := #[{ on := 5, ground := Ground.data }], guard := none }) (v := ?vg6) rfl (by kernel_rfl) (by kernel_rfl) (by kernel_rfl) (fun _ _ _ h => h) (Or.inl ⟨by rfl, ?hyg6⟩) hHeld ?_
  case hyg6 => (intro w hSw; (try dsimp only at hSw); go_simp; (try with_reducible rfl))
  try simp only [Act.put, List.setIfInBounds_toArray, List.set_cons_zero, List.set_cons_succ]
  refine wpAnyH_take (i := 7) (oi := { dst := some 13, op := Op.load 3 (Operand.tmp 12), type := 3, pos := "bar.go:37", after := #[{ on := 6, ground := Ground.data }], guard := none }) (v := ?vg7) rfl (by kernel_rfl) (by kernel_rfl) (by kernel_rfl) (fun _ _ _ h => h) (Or.inl ⟨by rfl, ?hyg7⟩) hHeld ?_
  case hyg7 => (intro w hSw; (try dsimp only at hSw); go_simp; (try with_reducible rfl))
  try simp only [Act.put, List.setIfInBounds_toArray, List.set_cons_zero, List.set_cons_succ]
  refine wpAnyH_take (i := 8) (oi := { dst := some 14, op := Op.binOp BinOp.lss 3 (Operand.tmp 7) (Operand.tmp 13) 3, type := 4, pos := "bar.go:37", after := #[{ on := 1, ground := Ground.data }, { on := 7, ground := Ground.data }], guard := none }) (v := ?vg8) rfl (by kernel_rfl) (by kernel_rfl) (by kernel_rfl) (fun _ _ _ h => h) (Or.inl ⟨by rfl, ?hyg8⟩) hHeld ?_
  case hyg8 => (intro w hSw; (try dsimp only at hSw); go_simp; (try with_reducible rfl))
  try simp only [Act.put, List.setIfInBounds_toArray, List.set_cons_zero, List.set_cons_succ]
  refine wpAnyH_take (i := 9) (oi := { dst := some 15, op := Op.move (Operand.tmp 14), type := 4, pos := "bar.go:37", after := #[{ on := 8, ground := Ground.data }], guard := none }) (v := ?vg9) rfl (by kernel_rfl) (by kernel_rfl) (by kernel_rfl) (fun _ _ _ h => h) (Or.inl ⟨by rfl, ?hyg9⟩) hHeld ?_
  case hyg9 => (intro w hSw; (try dsimp only at hSw); go_simp; (try with_reducible rfl))
  try simp only [Act.put, List.setIfInBounds_toArray, List.set_cons_zero, List.set_cons_succ]
  refine wpAnyH_take (i := 10) (oi := { dst := some 16, op := Op.fieldAddr 49 (Operand.tmp 2) 3, type := 0, pos := "bar.go:37", after := #[{ on := 9, ground := Ground.guard }], guard := some (9, true) }) (v := ?vg10) rfl (by kernel_rfl) (by kernel_rfl) (by kernel_rfl) (fun _ _ _ h => h) (Or.inl ⟨by rfl, ?hyg10⟩) hHeld ?_
  case hyg10 => (intro w hSw; (try dsimp only at hSw); go_simp; (try with_reducible rfl))
  try simp only [Act.put, List.setIfInBounds_toArray, List.set_cons_zero, List.set_cons_succ]
  refine wpAnyH_take (i := 11) (oi := { dst := some 17, op := Op.load 3 (Operand.tmp 16), type := 3, pos := "bar.go:37", after := #[{ on := 10, ground := Ground.data }, { on := 9, ground := Ground.guard }], guard := some (9, true) }) (v := ?vg11) rfl (by kernel_rfl) (by kernel_rfl) (by kernel_rfl) (fun _ _ _ h => h) (Or.inl ⟨by rfl, ?hyg11⟩) hHeld ?_
  case hyg11 => (intro w hSw; (try dsimp only at hSw); go_simp; (try with_reducible rfl))
  try simp only [Act.put, List.setIfInBounds_toArray, List.set_cons_zero, List.set_cons_succ]
  refine wpAnyH_take (i := 12) (oi := { dst := some 18, op := Op.binOp BinOp.add 3 (Operand.tmp 17) (Operand.const (Value.int IntKind.i64 1)) 3, type := 3, pos := "bar.go:37", after := #[{ on := 11, ground := Ground.data }, { on := 9, ground := Ground.guard }], guard := some (9, true) }) (v := ?vg12) rfl (by kernel_rfl) (by kernel_rfl) (by kernel_rfl) (fun _ _ _ h => h) (Or.inl ⟨by rfl, ?hyg12⟩) hHeld ?_
  case hyg12 => (intro w hSw; (try dsimp only at hSw); go_simp; (try with_reducible rfl))
  try simp only [Act.put, List.setIfInBounds_toArray, List.set_cons_zero, List.set_cons_succ]
  refine wpAnyH_take (i := 13) (oi := { dst := some 19, op := Op.load 70 (Operand.tmp 3), type := 70, pos := "bar.go:37", after := #[{ on := 9, ground := Ground.guard }], guard := some (9, true) }) (v := ?vg13) rfl (by kernel_rfl) (by kernel_rfl) (by kernel_rfl) (fun _ _ _ h => h) (Or.inl ⟨by rfl, ?hyg13⟩) hHeld ?_
  case hyg13 => (intro w hSw; (try dsimp only at hSw); go_simp; (try with_reducible rfl))
  try simp only [Act.put, List.setIfInBounds_toArray, List.set_cons_zero, List.set_cons_succ]
  refine wpAnyH_take (i := 14) (oi := { dst := some 20, op := Op.nilCheck (Operand.tmp 19), type := 0, pos := "bar.go:37", after := #[{ on := 13, ground := Ground.data }, { on := 9, ground := Ground.guard }], guard := some (9, true) }) (v := ?vg14) rfl (by kernel_rfl) (by kernel_rfl) (by kernel_rfl) (fun _ _ _ h => h) (Or.inl ⟨by rfl, ?hyg14⟩) hHeld ?_
  case hyg14 => (intro w hSw; (try dsimp only at hSw); go_simp; (try with_reducible rfl))
  try simp only [Act.put, List.setIfInBounds_toArray, List.set_cons_zero, List.set_cons_succ]
  refine wpAnyH_take (i := 15) (oi := { dst := some 21, op := Op.fieldAddr 90 (Operand.tmp 20) 1, type := 0, pos := "bar.go:37", after := #[{ on := 14, ground := Ground.data }, { on := 9, ground := Ground.guard }], guard := some (9, true) }) (v := ?vg15) rfl (by kernel_rfl) (by kernel_rfl) (by kernel_rfl) (fun _ _ _ h => h) (Or.inl ⟨by rfl, ?hyg15⟩) hHeld ?_
  case hyg15 => (intro w hSw; (try dsimp only at hSw); go_simp; (try with_reducible rfl))
  try simp only [Act.put, List.setIfInBounds_toArray, List.set_cons_zero, List.set_cons_succ]
  refine wpAnyH_take (i := 16) (oi := { dst := some 22, op := Op.fieldAddr 88 (Operand.tmp 21) 0, type := 0, pos := "bar.go:37", after := #[{ on := 15, ground := Ground.data }, { on := 9, ground := Ground.guard }], guard := some (9, true) }) (v := ?vg16) rfl (by kernel_rfl) (by kernel_rfl) (by kernel_rfl) (fun _ _ _ h => h) (Or.inl ⟨by rfl, ?hyg16⟩) hHeld ?_
  case hyg16 => (intro w hSw; (try dsimp only at hSw); go_simp; (try with_reducible rfl))
  try simp only [Act.put, List.setIfInBounds_toArray, List.set_cons_zero, List.set_cons_succ]
  refine wpAnyH_take (i := 17) (oi := { dst := some 23, op := Op.fieldAddr 23 (Operand.tmp 22) 1, type := 0, pos := "bar.go:37", after := #[{ on := 16, ground := Ground.data }, { on := 9, ground := Ground.guard }], guard := some (9, true) }) (v := ?vg17) rfl (by kernel_rfl) (by kernel_rfl) (by kernel_rfl) (fun _ _ _ h => h) (Or.inl ⟨by rfl, ?hyg17⟩) hHeld ?_
  case hyg17 => (intro w hSw; (try dsimp only at hSw); go_simp; (try with_reducible rfl))
  try simp only [Act.put, List.setIfInBounds_toArray, List.set_cons_zero, List.set_cons_succ]
  refine wpAnyH_take (i := 18) (oi := { dst := some 24, op := Op.load 3 (Operand.tmp 23), type := 3, pos := "bar.go:37", after := #[{ on := 17, ground := Ground.data }, { on := 9, ground := Ground.guard }], guard := some (9, true) }) (v := ?vg18) rfl (by kernel_rfl) (by kernel_rfl) (by kernel_rfl) (fun _ _ _ h => h) (Or.inl ⟨by rfl, ?hyg18⟩) hHeld ?_
  case hyg18 => (intro w hSw; (try dsimp only at hSw); go_simp; (try with_reducible rfl))
  try simp only [Act.put, List.setIfInBounds_toArray, List.set_cons_zero, List.set_cons_succ]
  refine wpAnyH_take (i := 19) (oi := { dst := some 25, op := Op.binOp BinOp.lss 3 (Operand.tmp 18) (Operand.tmp 24) 3, type := 4, pos := "bar.go:37", after := #[{ on := 12, ground := Ground.data }, { on := 18, ground := Ground.data }, { on := 9, ground := Ground.guard }], guard := some (9, true) }) (v := ?vg19) rfl (by kernel_rfl) (by kernel_rfl) (by kernel_rfl) (fun _ _ _ h => h) (Or.inl ⟨by rfl, ?hyg19⟩) hHeld ?_
  case hyg19 => (intro w hSw; (try dsimp only at hSw); go_simp; (try with_reducible rfl))
  try simp only [Act.put, List.setIfInBounds_toArray, List.set_cons_zero, List.set_cons_succ]
  refine wpAnyH_take (i := 20) (oi := { dst := some 26, op := Op.pick (Operand.tmp 15) (Operand.tmp 25) (Operand.const (Value.bool false)), type := 4, pos := "bar.go:37", after := #[{ on := 9, ground := Ground.data }, { on := 19, ground := Ground.data }], guard := none }) (v := ?vg20) rfl (by kernel_rfl) (by kernel_rfl) (by kernel_rfl) (fun _ _ _ h => h) (Or.inl ⟨by rfl, ?hyg20⟩) hHeld ?_
  case hyg20 => (intro w hSw; (try dsimp only at hSw); go_simp; (try with_reducible rfl))
  try simp only [Act.put, List.setIfInBounds_toArray, List.set_cons_zero, List.set_cons_succ]
  refine wpAnyH_done (by kernel_rfl) ?_ _
  clear hHeld hK k2 a0 a1 a2 a3 a4 a5 a6 a7 a8 af
  have HC1 := Lib.hid HC0.out.drew
  clear HC0
  generalize V.drew = V1 at *
  obtain ⟨a0, a1, a2, a3, a4, a5, a6, a7, a8, af⟩ := HC1.out.cells
  dsimp only at a0 a1 a2 a3 a4 a5 a6 a7 a8
  have HC2 := Lib.hid ((HC1.out.setL n).setM (m + 1))
  clear HC1
  go_wp2_with fail
  refine bodyPost_ret (v := .tuple #[]) (by simp [results, Tryz.f173, go_sem]) rfl ?_
  exact ⟨rfl, HC2.out⟩
set_option maxHeartbeats 1600000 in
theorem go_end {w V : World} {Kh X Y H A G : Nat} {C : Cf} {s : Dy} (l j c m a p : Int) (fd : Bool) (tl cy : Int) (HC : ColK w V Kh X Y H A G C s ⟨l, j, c, m, a, p, fd, tl, cy⟩) (hm : -1000000000000 ≤ m ∧ m ≤ 1000000000000) (h1 : m < C.b) (h2 : ¬ m + 1 < C.b) (n q : Int) :
    Calls Tryz.prog 173 #[.int .i64 n, .int .i64 q, .pointer (some ⟨X, 0, none⟩), .pointer (some ⟨Kh, 0, none⟩)] V fun e w' => e = .returned (.tuple #[]) ∧ ColK w w' Kh X Y H A G C s ⟨q, j, c, 0, a, p, fd, tl, cy⟩ := by
  have HC0 := Lib.hid HC
  have hw1 : IntKind.i64.wrap (m + 1) = m + 1 := IntWalk.i64_in _ (by omega)
  have d1 : decide (m < C.b) = true := decide_eq_true h1
  have d2 : decide (m + 1 < C.b) = false := decide_eq_false h2
  have hK := HC.cellK
  clear HC hm h1 h2
  obtain ⟨a0, a1, a2, a3, a4, a5, a6, a7, a8, af⟩ := HC0.out.cells
  dsimp only at a0 a1 a2 a3 a4 a5 a6 a7 a8
  obtain ⟨_, ⟨_, k2, _, _⟩, _⟩ := HC0.out.hand.cells
  go_enter Tryz.func173, Tryz.ntmps173
  go_upto_region 0 with fail
  refine wp_region_held_drew (S := (fun w' => w'.cell? ⟨Kh, 0, none⟩ = some (.pointer (some ⟨H, 0, none⟩)) ∧ w'.cell? ⟨X, 3, none⟩ = some (.int .i64 m) ∧ w'.cell? ⟨H, 2, none⟩ = some (.int .i64 C.b))) (by kernel_rfl) ?_ (fun hHeld => ?_)
  · exact ⟨hK, a3, k2⟩
  refine wpAnyH_take (i := 0) (oi := { dst := some 6, op := Op.fieldAddr 49 (Operand.tmp 2) 3, type := 0, pos := "bar.go:37", after := #[], guard := none }) (v := ?vg0) rfl (by kernel_rfl) (by kernel_rfl) (by kernel_rfl) (fun _ _ _ h => h) (Or.inl ⟨by rfl, ?hyg0⟩) hHeld ?_
  case hyg0 => (intro w hSw; (try dsimp only at hSw); go_simp; (try with_reducible rfl))
  try simp only [Act.put, List.setIfInBounds_toArray, List.set_cons_zero, List.set_cons_succ]
  refine wpAnyH_take (i := 1) (oi := { dst := some 7, op := Op.load 3 (Operand.tmp 6), type := 3, pos := "bar.go:37", after := #[{ on := 0, ground := Ground.data }], guard := none }) (v := ?vg1) rfl (by kernel_rfl) (by kernel_rfl) (by kernel_rfl) (fun _ _ _ h => h) (Or.inl ⟨by rfl, ?hyg1⟩) hHeld ?_
  case hyg1 => (intro w hSw; (try dsimp only at hSw); go_simp; (try with_reducible rfl))
  try simp only [Act.put, List.setIfInBounds_toArray, List.set_cons_zero, List.set_cons_succ]
  refine wpAnyH_take (i := 2) (oi := { dst := some 8, op := Op.load 70 (Operand.tmp 3), type := 70, pos := "bar.go:37", after := #[], guard := none }) (v := ?vg2) rfl (by kernel_rfl) (by kernel_rfl) (by kernel_rfl) (fun _ _ _ h => h) (Or.inl ⟨by rfl, ?hyg2⟩) hHeld ?_
  case hyg2 => (intro w hSw; (try dsimp only at hSw); go_simp; (try with_reducible rfl))
  try simp only [Act.put, List.setIfInBounds_toArray, List.set_cons_zero, List.set_cons_succ]
  refine wpAnyH_take (i := 3) (oi := { dst := some 9, op := Op.nilCheck (Operand.tmp 8), type := 0, pos := "bar.go:37", after := #[{ on := 2, ground := Ground.data }], guard := none }) (v := ?vg3) rfl (by kernel_rfl) (by kernel_rfl) (by kernel_rfl) (fun _ _ _ h => h) (Or.inl ⟨by rfl, ?hyg3⟩) hHeld ?_
  case hyg3 => (intro w hSw; (try dsimp only at hSw); go_simp; (try with_reducible rfl))
  try simp only [Act.put, List.setIfInBounds_toArray, List.set_cons_zero, List.set_cons_succ]
  refine wpAnyH_take (i := 4) (oi := { dst := some 10, op := Op.fieldAddr 90 (Operand.tmp 9) 1, type := 0, pos := "bar.go:37", after := #[{ on := 3, ground := Ground.data }], guard := none }) (v := ?vg4) rfl (by kernel_rfl) (by kernel_rfl) (by kernel_rfl) (fun _ _ _ h => h) (Or.inl ⟨by rfl, ?hyg4⟩) hHeld ?_
  case hyg4 => (intro w hSw; (try dsimp only at hSw); go_simp; (try with_reducible rfl))
  try simp only [Act.put, List.setIfInBounds_toArray, List.set_cons_zero, List.set_cons_succ]
  refine wpAnyH_take (i := 5) (oi := { dst := some 11, op := Op.fieldAddr 88 (Operand.tmp 10) 0, type := 0, pos := "bar.go:37", after := #[{ on := 4, ground := Ground.data }], guard := none }) (v := ?vg5) rfl (by kernel_rfl) (by kernel_rfl) (by kernel_rfl) (fun _ _ _ h => h) (Or.inl ⟨by rfl, ?hyg5⟩) hHeld ?_
  case hyg5 => (intro w hSw; (try dsimp only at hSw); go_simp; (try with_reducible rfl))
  try simp only [Act.put, List.setIfInBounds_toArray, List.set_cons_zero, List.set_cons_succ]
  refine wpAnyH_take (i := 6) (oi := { dst := some 12, op := Op.fieldAddr 23 (Operand.tmp 11) 1, type := 0, pos := "bar.go:37", after := #[{ on := 5, ground := Ground.data }], guard := none }) (v := ?vg6) rfl (by kernel_rfl) (by kernel_rfl) (by kernel_rfl) (fun _ _ _ h => h) (Or.inl ⟨by rfl, ?hyg6⟩) hHeld ?_
  case hyg6 => (intro w hSw; (try dsimp only at hSw); go_simp; (try with_reducible rfl))
  try simp only [Act.put, List.setIfInBounds_toArray, List.set_cons_zero, List.set_cons_succ]
  refine wpAnyH_take (i := 7) (oi := { dst := some 13, op := Op.load 3 (Operand.tmp 12), type := 3, pos := "bar.go:37", after := #[{ on := 6, ground := Ground.data }], guard := none }) (v := ?vg7) rfl (by kernel_rfl) (by kernel_rfl) (by kernel_rfl) (fun _ _ _ h => h) (Or.inl ⟨by rfl, ?hyg7⟩) hHeld ?_
  case hyg7 => (intro w hSw; (try dsimp only at hSw); go_simp; (try with_reducible rfl))
  try simp only [Act.put, List.setIfInBounds_toArray, List.set_cons_zero, List.set_cons_succ]
  refine wpAnyH_take (i := 8) (oi := { dst := some 14, op := Op.binOp BinOp.lss 3 (Operand.tmp 7) (Operand.tmp 13) 3, type := 4, pos := "bar.go:37", after := #[{ on := 1, ground := Ground.data }, { on := 7, ground := Ground.data }], guard := none }) (v := ?vg8) rfl (by kernel_rfl) (by kernel_rfl) (by kernel_rfl) (fun _ _ _ h => h) (Or.inl ⟨by rfl, ?hyg8⟩) hHeld ?_
  case hyg8 => (intro w hSw; (try dsimp only at hSw); go_simp; (try with_reducible rfl))
  try simp only [Act.put, List.setIfInBounds_toArray, List.set_cons_zero, List.set_cons_succ]
  refine wpAnyH_take (i := 9) (oi := { dst := some 15, op := Op.move (Operand.tmp 14), type := 4, pos := "bar.go:37", after := #[{ on := 8, ground := Ground.data }], guard := none }) (v := ?vg9) rfl (by kernel_rfl) (by kernel_rfl) (by kernel_rfl) (fun _ _ _ h => h) (Or.inl ⟨by rfl, ?hyg9⟩) hHeld ?_
  case hyg9 => (intro w hSw; (try dsimp only at hSw); go_simp; (try with_reducible rfl))
  try simp only [Act.put, List.setIfInBounds_toArray, List.set_cons_zero, List.set_cons_succ]
  refine wpAnyH_take (i := 10) (oi := { dst := some 16, op := Op.fieldAddr 49 (Operand.tmp 2) 3, type := 0, pos := "bar.go:37", after := #[{ on := 9, ground := Ground.guard }], guard := some (9, true) }) (v := ?vg10) rfl (by kernel_rfl) (by kernel_rfl) (by kernel_rfl) (fun _ _ _ h => h) (Or.inl ⟨by rfl, ?hyg10⟩) hHeld ?_
  case hyg10 => (intro w hSw; (try dsimp only at hSw); go_simp; (try with_reducible rfl))
  try simp only [Act.put, List.setIfInBounds_toArray, List.set_cons_zero, List.set_cons_succ]
  refine wpAnyH_take (i := 11) (oi := { dst := some 17, op := Op.load 3 (Operand.tmp 16), type := 3, pos := "bar.go:37", after := #[{ on := 10, ground := Ground.data }, { on := 9, ground := Ground.guard }], guard := some (9, true) }) (v := ?vg11) rfl (by kernel_rfl) (by kernel_rfl) (by kernel_rfl) (fun _ _ _ h => h) (Or.inl ⟨by rfl, ?hyg11⟩) hHeld ?_
  case hyg11 => (intro w hSw; (try dsimp only at hSw); go_simp; (try with_reducible rfl))
  try simp only [Act.put, List.setIfInBounds_toArray, List.set_cons_zero, List.set_cons_succ]
  refine wpAnyH_take (i := 12) (oi := { dst := some 18, op := Op.binOp BinOp.add 3 (Operand.tmp 17) (Operand.const (Value.int IntKind.i64 1)) 3, type := 3, pos := "bar.go:37", after := #[{ on := 11, ground := Ground.data }, { on := 9, ground := Ground.guard }], guard := some (9, true) }) (v := ?vg12) rfl (by kernel_rfl) (by kernel_rfl) (by kernel_rfl) (fun _ _ _ h => h) (Or.inl ⟨by rfl, ?hyg12⟩) hHeld ?_
  case hyg12 => (intro w hSw; (try dsimp only at hSw); go_simp; (try with_reducible rfl))
  try simp only [Act.put, List.setIfInBounds_toArray, List.set_cons_zero, List.set_cons_succ]
  refine wpAnyH_take (i := 13) (oi := { dst := some 19, op := Op.load 70 (Operand.tmp 3), type := 70, pos := "bar.go:37", after := #[{ on := 9, ground := Ground.guard }], guard := some (9, true) }) (v := ?vg13) rfl (by kernel_rfl) (by kernel_rfl) (by kernel_rfl) (fun _ _ _ h => h) (Or.inl ⟨by rfl, ?hyg13⟩) hHeld ?_
  case hyg13 => (intro w hSw; (try dsimp only at hSw); go_simp; (try with_reducible rfl))
  try simp only [Act.put, List.setIfInBounds_toArray, List.set_cons_zero, List.set_cons_succ]
  refine wpAnyH_take (i := 14) (oi := { dst := some 20, op := Op.nilCheck (Operand.tmp 19), type := 0, pos := "bar.go:37", after := #[{ on := 13, ground := Ground.data }, { on := 9, ground := Ground.guard }], guard := some (9, true) }) (v := ?vg14) rfl (by kernel_rfl) (by kernel_rfl) (by kernel_rfl) (fun _ _ _ h => h) (Or.inl ⟨by rfl, ?hyg14⟩) hHeld ?_
  case hyg14 => (intro w hSw; (try dsimp only at hSw); go_simp; (try with_reducible rfl))
  try simp only [Act.put, List.setIfInBounds_toArray, List.set_cons_zero, List.set_cons_succ]
  refine wpAnyH_take (i := 15) (oi := { dst := some 21, op := Op.fieldAddr 90 (Operand.tmp 20) 1, type := 0, pos := "bar.go:37", after := #[{ on := 14, ground := Ground.data }, { on := 9, ground := Ground.guard }], guard := some (9, true) }) (v := ?vg15) rfl (by kernel_rfl) (by kernel_rfl) (by kernel_rfl) (fun _ _ _ h => h) (Or.inl ⟨by rfl, ?hyg15⟩) hHeld ?_
  case hyg15 => (intro w hSw; (try dsimp only at hSw); go_simp; (try with_reducible rfl))
  try simp only [Act.put, List.setIfInBounds_toArray, List.set_cons_zero, List.set_cons_succ]
  refine wpAnyH_take (i := 16) (oi := { dst := some 22, op := Op.fieldAddr 88 (Operand.tmp 21) 0, type := 0, pos := "bar.go:37", after := #[{ on := 15, ground := Ground.data }, { on := 9, ground := Ground.guard }], guard := some (9, true) }) (v := ?vg16) rfl (by kernel_rfl) (by kernel_rfl) (by kernel_rfl) (fun _ _ _ h => h) (Or.inl ⟨by rfl, ?hyg16⟩) hHeld ?_
  case hyg16 => (intro w hSw; (try dsimp only at hSw); go_simp; (try with_reducible rfl))
  try simp only [Act.put, List.setIfInBounds_toArray, List.set_cons_zero, List.set_cons_succ]
  refine wpAnyH_take (i := 17) (oi := { dst := some 23, op := Op.fieldAddr 23 (Operand.tmp 22) 1, type := 0, pos := "bar.go:37", after := #[{ on := 16, ground := Ground.data }, { on := 9, ground := Ground.guard }], guard := some (9, true) }) (v := ?vg17) rfl (by kernel_rfl) (by kernel_rfl) (by kernel_rfl) (fun _ _ _ h => h) (Or.inl ⟨by rfl, ?hyg17⟩) hHeld ?_
  case hyg17 => (intro w hSw; (try dsimp only at hSw); go_simp; (try with_reducible rfl))
  try simp only [Act.put, List.setIfInBounds_toArray, List.set_cons_zero, List.set_cons_succ]
  refine wpAnyH_take (i := 18) (oi := { dst := some 24, op := Op.load 3 (Operand.tmp 23), type := 3, pos := "bar.go:37", after := #[{ on := 17, ground := Ground.data }, { on := 9, ground := Ground.guard }], guard := some (9, true) }) (v := ?vg18) rfl (by kernel_rfl) (by kernel_rfl) (by kernel_rfl) (fun _ _ _ h => h) (Or.inl ⟨by rfl, ?hyg18⟩) hHeld ?_
  case hyg18 => (intro w hSw; (try dsimp only at hSw); go_simp; (try with_reducible rfl))
  try simp only [Act.put, List.setIfInBounds_toArray, List.set_cons_zero, List.set_cons_succ]
  refine wpAnyH_take (i := 19) (oi := { dst := some 25, op := Op.binOp BinOp.lss 3 (Operand.tmp 18) (Operand.tmp 24) 3, type := 4, pos := "bar.go:37", after := #[{ on := 12, ground := Ground.data }, { on := 18, ground := Ground.data }, { on := 9, ground := Ground.guard }], guard := some (9, true) }) (v := ?vg19) rfl (by kernel_rfl) (by kernel_rfl) (by kernel_rfl) (fun _ _ _ h => h) (Or.inl ⟨by rfl, ?hyg19⟩) hHeld ?_
  case hyg19 => (intro w hSw; (try dsimp only at hSw); go_simp; (try with_reducible rfl))
  try simp only [Act.put, List.setIfInBounds_toArray, List.set_cons_zero, List.set_cons_succ]
  refine wpAnyH_take (i := 20) (oi := { dst := some 26, op := Op.pick (Operand.tmp 15) (Operand.tmp 25) (Operand.const (Value.bool false)), type := 4, pos := "bar.go:37", after := #[{ on := 9, ground := Ground.data }, { on := 19, ground := Ground.data }], guard := none }) (v := ?vg20) rfl (by kernel_rfl) (by kernel_rfl) (by kernel_rfl) (fun _ _ _ h => h) (Or.inl ⟨by rfl, ?hyg20⟩) hHeld ?_
  case hyg20 => (intro w hSw; (try dsimp only at hSw); go_simp; (try with_reducible rfl))
  try simp only [Act.put, List.setIfInBounds_toArray, List.set_cons_zero, List.set_cons_succ]
  refine wpAnyH_done (by kernel_rfl) ?_ _
  clear hHeld hK k2 a0 a1 a2 a3 a4 a5 a6 a7 a8 af
  have HC1 := Lib.hid HC0.out.drew
  clear HC0
  generalize V.drew = V1 at *
  obtain ⟨a0, a1, a2, a3, a4, a5, a6, a7, a8, af⟩ := HC1.out.cells
  dsimp only at a0 a1 a2 a3 a4 a5 a6 a7 a8
  have HC2 := Lib.hid ((HC1.out.setL q).setM 0)
  clear HC1
  go_wp2_with fail
  refine bodyPost_end (v := .tuple #[]) (by simp [results, Tryz.f173, go_sem]) rfl ?_
  exact ⟨rfl, HC2.out⟩
set_option maxHeartbeats 1600000 in
theorem go_out {w V : World} {Kh X Y H A G : Nat} {C : Cf} {s : Dy} (l j c m a p : Int) (fd : Bool) (tl cy : Int) (HC : ColK w V Kh X Y H A G C s ⟨l, j, c, m, a, p, fd, tl, cy⟩) (hm : -1000000000000 ≤ m ∧ m ≤ 1000000000000) (h1 : ¬ m < C.b) (n q : Int) :
    Calls Tryz.prog 173 #[.int .i64 n, .int .i64 q, .pointer (some ⟨X, 0, none⟩), .pointer (some ⟨Kh, 0, none⟩)] V fun e w' => e = .returned (.tuple #[]) ∧ ColK w w' Kh X Y H A G C s ⟨q, j, c, 0, a, p, fd, tl, cy⟩ := by
  have HC0 := Lib.hid HC
  have hw1 : IntKind.i64.wrap (m + 1) = m + 1 := IntWalk.i64_in _ (by omega)
  have d1 : decide (m < C.b) = false := decide_eq_false h1
  have hK := HC.cellK
  clear HC hm h1
  obtain ⟨a0, a1, a2, a3, a4, a5, a6, a7, a8, af⟩ := HC0.out.cells
  dsimp only at a0 a1 a2 a3 a4 a5 a6 a7 a8
  obtain ⟨_, ⟨_, k2, _, _⟩, _⟩ := HC0.out.hand.cells
  go_enter Tryz.func173, Tryz.ntmps173
  go_upto_region 0 with fail
  refine wp_region_held_drew (S := (fun w' => w'.cell? ⟨Kh, 0, none⟩ = some (.pointer (some ⟨H, 0, none⟩)) ∧ w'.cell? ⟨X, 3, none⟩ = some (.int .i64 m) ∧ w'.cell? ⟨H, 2, none⟩ = some (.int .i64 C.b))) (by kernel_rfl) ?_ (fun hHeld => ?_)
  · exact ⟨hK, a3, k2⟩
  refine wpAnyH_take (i := 0) (oi := { dst := some 6, op := Op.fieldAddr 49 (Operand.tmp 2) 3, type := 0, pos := "bar.go:37", after := #[], guard := none }) (v := ?vg0) rfl (by kernel_rfl) (by kernel_rfl) (by kernel_rfl) (fun _ _ _ h => h) (Or.inl ⟨by rfl, ?hyg0⟩) hHeld ?_
  case hyg0 => (intro w hSw; (try dsimp only at hSw); go_simp; (try with_reducible rfl))
  try simp only [Act.put, List.setIfInBounds_toArray, List.set_cons_zero, List.set_cons_succ]
  refine wpAnyH_take (i := 1) (oi := { dst := some 7, op := Op.load 3 (Operand.tmp 6), type := 3, pos := "bar.go:37", after := #[{ on := 0, ground := Ground.data }], guard := none }) (v := ?vg1) rfl (by kernel_rfl) (by kernel_rfl) (by kernel_rfl) (fun _ _ _ h => h) (Or.inl ⟨by rfl, ?hyg1⟩) hHeld ?_
  case hyg1 => (intro w hSw; (try dsimp only at hSw); go_simp; (try with_reducible rfl))
  try simp only [Act.put, List.setIfInBounds_toArray, List.set_cons_zero, List.set_cons_succ]
  refine wpAnyH_take (i := 2) (oi := { dst := some 8, op := Op.load 70 (Operand.tmp 3), type := 70, pos := "bar.go:37", after := #[], guard := none }) (v := ?vg2) rfl (by kernel_rfl) (by kernel_rfl) (by kernel_rfl) (fun _ _ _ h => h) (Or.inl ⟨by rfl, ?hyg2⟩) hHeld ?_
  case hyg2 => (intro w hSw; (try dsimp only at hSw); go_simp; (try with_reducible rfl))
  try simp only [Act.put, List.setIfInBounds_toArray, List.set_cons_zero, List.set_cons_succ]
  refine wpAnyH_take (i := 3) (oi := { dst := some 9, op := Op.nilCheck (Operand.tmp 8), type := 0, pos := "bar.go:37", after := #[{ on := 2, ground := Ground.data }], guard := none }) (v := ?vg3) rfl (by kernel_rfl) (by kernel_rfl) (by kernel_rfl) (fun _ _ _ h => h) (Or.inl ⟨by rfl, ?hyg3⟩) hHeld ?_
  case hyg3 => (intro w hSw; (try dsimp only at hSw); go_simp; (try with_reducible rfl))
  try simp only [Act.put, List.setIfInBounds_toArray, List.set_cons_zero, List.set_cons_succ]
  refine wpAnyH_take (i := 4) (oi := { dst := some 10, op := Op.fieldAddr 90 (Operand.tmp 9) 1, type := 0, pos := "bar.go:37", after := #[{ on := 3, ground := Ground.data }], guard := none }) (v := ?vg4) rfl (by kernel_rfl) (by kernel_rfl) (by kernel_rfl) (fun _ _ _ h => h) (Or.inl ⟨by rfl, ?hyg4⟩) hHeld ?_
  case hyg4 => (intro w hSw; (try dsimp only at hSw); go_simp; (try with_reducible rfl))
  try simp only [Act.put, List.setIfInBounds_toArray, List.set_cons_zero, List.set_cons_succ]
  refine wpAnyH_take (i := 5) (oi := { dst := some 11, op := Op.fieldAddr 88 (Operand.tmp 10) 0, type := 0, pos := "bar.go:37", after := #[{ on := 4, ground := Ground.data }], guard := none }) (v := ?vg5) rfl (by kernel_rfl) (by kernel_rfl) (by kernel_rfl) (fun _ _ _ h => h) (Or.inl ⟨by rfl, ?hyg5⟩) hHeld ?_
  case hyg5 => (intro w hSw; (try dsimp only at hSw); go_simp; (try with_reducible rfl))
  try simp only [Act.put, List.setIfInBounds_toArray, List.set_cons_zero, List.set_cons_succ]
  refine wpAnyH_take (i := 6) (oi := { dst := some 12, op := Op.fieldAddr 23 (Operand.tmp 11) 1, type := 0, pos := "bar.go:37", after := #[{ on := 5, ground := Ground.data }], guard := none }) (v := ?vg6) rfl (by kernel_rfl) (by kernel_rfl) (by kernel_rfl) (fun _ _ _ h => h) (Or.inl ⟨by rfl, ?hyg6⟩) hHeld ?_
  case hyg6 => (intro w hSw; (try dsimp only at hSw); go_simp; (try with_reducible rfl))
  try simp only [Act.put, List.setIfInBounds_toArray, List.set_cons_zero, List.set_cons_succ]
  refine wpAnyH_take (i := 7) (oi := { dst := some 13, op := Op.load 3 (Operand.tmp 12), type := 3, pos := "bar.go:37", after := #[{ on := 6, ground := Ground.data }], guard := none }) (v := ?vg7) rfl (by kernel_rfl) (by kernel_rfl) (by kernel_rfl) (fun _ _ _ h => h) (Or.inl ⟨by rfl, ?hyg7⟩) hHeld ?_
  case hyg7 => (intro w hSw; (try dsimp only at hSw); go_simp; (try with_reducible rfl))
  try simp only [Act.put, List.setIfInBounds_toArray, List.set_cons_zero, List.set_cons_succ]
  refine wpAnyH_take (i := 8) (oi := { dst := some 14, op := Op.binOp BinOp.lss 3 (Operand.tmp 7) (Operand.tmp 13) 3, type := 4, pos := "bar.go:37", after := #[{ on := 1, ground := Ground.data }, { on := 7, ground := Ground.data }], guard := none }) (v := ?vg8) rfl (by kernel_rfl) (by kernel_rfl) (by kernel_rfl) (fun _ _ _ h => h) (Or.inl ⟨by rfl, ?hyg8⟩) hHeld ?_
  case hyg8 => (intro w hSw; (try dsimp only at hSw); go_simp; (try with_reducible rfl))
  try simp only [Act.put, List.setIfInBounds_toArray, List.set_cons_zero, List.set_cons_succ]
  refine wpAnyH_take (i := 9) (oi := { dst := some 15, op := Op.move (Operand.tmp 14), type := 4, pos := "bar.go:37", after := #[{ on := 8, ground := Ground.data }], guard := none }) (v := ?vg9) rfl (by kernel_rfl) (by kernel_rfl) (by kernel_rfl) (fun _ _ _ h => h) (Or.inl ⟨by rfl, ?hyg9⟩) hHeld ?_
  case hyg9 => (intro w hSw; (try dsimp only at hSw); go_simp; (try with_reducible rfl))
  try simp only [Act.put, List.setIfInBounds_toArray, List.set_cons_zero, List.set_cons_succ]
  refine wpAnyH_take (i := 10) (oi := { dst := some 16, op := Op.fieldAddr 49 (Operand.tmp 2) 3, type := 0, pos := "bar.go:37", after := #[{ on := 9, ground := Ground.guard }], guard := some (9, true) }) (v := undef) rfl (by kernel_rfl) (by kernel_rfl) (by kernel_rfl) (fun _ _ _ h => h) (Or.inr ⟨by rfl, rfl⟩) hHeld ?_
  try simp only [Act.put, List.setIfInBounds_toArray, List.set_cons_zero, List.set_cons_succ]
  refine wpAnyH_take (i := 11) (oi := { dst := some 17, op := Op.load 3 (Operand.tmp 16), type := 3, pos := "bar.go:37", after := #[{ on := 10, ground := Ground.data }, { on := 9, ground := Ground.guard }], guard := some (9, true) }) (v := undef) rfl (by kernel_rfl) (by kernel_rfl) (by kernel_rfl) (fun _ _ _ h => h) (Or.inr ⟨by rfl, rfl⟩) hHeld ?_
  try simp only [Act.put, List.setIfInBounds_toArray, List.set_cons_zero, List.set_cons_succ]
  refine wpAnyH_take (i := 12) (oi := { dst := some 18, op := Op.binOp BinOp.add 3 (Operand.tmp 17) (Operand.const (Value.int IntKind.i64 1)) 3, type := 3, pos := "bar.go:37", after := #[{ on := 11, ground := Ground.data }, { on := 9, ground := Ground.guard }], guard := some (9, true) }) (v := undef) rfl (by kernel_rfl) (by kernel_rfl) (by kernel_rfl) (fun _ _ _ h => h) (Or.inr ⟨by rfl, rfl⟩) hHeld ?_
  try simp only [Act.put, List.setIfInBounds_toArray, List.set_cons_zero, List.set_cons_succ]
  refine wpAnyH_take (i := 13) (oi := { dst := some 19, op := Op.load 70 (Operand.tmp 3), type := 70, pos := "bar.go:37", after := #[{ on := 9, ground := Ground.guard }], guard := some (9, true) }) (v := undef) rfl (by kernel_rfl) (by kernel_rfl) (by kernel_rfl) (fun _ _ _ h => h) (Or.inr ⟨by rfl, rfl⟩) hHeld ?_
  try simp only [Act.put, List.setIfInBounds_toArray, List.set_cons_zero, List.set_cons_succ]
  refine wpAnyH_take (i := 14) (oi := { dst := some 20, op := Op.nilCheck (Operand.tmp 19), type := 0, pos := "bar.go:37", after := #[{ on := 13, ground := Ground.data }, { on := 9, ground := Ground.guard }], guard := some (9, true) }) (v := undef) rfl (by kernel_rfl) (by kernel_rfl) (by kernel_rfl) (fun _ _ _ h => h) (Or.inr ⟨by rfl, rfl⟩) hHeld ?_
  try simp only [Act.put, List.setIfInBounds_toArray, List.set_cons_zero, List.set_cons_succ]
  refine wpAnyH_take (i := 15) (oi := { dst := some 21, op := Op.fieldAddr 90 (Operand.tmp 20) 1, type := 0, pos := "bar.go:37", after := #[{ on := 14, ground := Ground.data }, { on := 9, ground := Ground.guard }], guard := some (9, true) }) (v := undef) rfl (by kernel_rfl) (by kernel_rfl) (by kernel_rfl) (fun _ _ _ h => h) (Or.inr ⟨by rfl, rfl⟩) hHeld ?_
  try simp only [Act.put, List.setIfInBounds_toArray, List.set_cons_zero, List.set_cons_succ]
  refine wpAnyH_take (i := 16) (oi := { dst := some 22, op := Op.fieldAddr 88 (Operand.tmp 21) 0, type := 0, pos := "bar.go:37", after := #[{ on := 15, ground := Ground.data }, { on := 9, ground := Ground.guard }], guard := some (9, true) }) (v := undef) rfl (by kernel_rfl) (by kernel_rfl) (by kernel_rfl) (fun _ _ _ h => h) (Or.inr ⟨by rfl, rfl⟩) hHeld ?_
  try simp only [Act.put, List.setIfInBounds_toArray, List.set_cons_zero, List.set_cons_succ]
  refine wpAnyH_take (i := 17) (oi := { dst := some 23, op := Op.fieldAddr 23 (Operand.tmp 22) 1, type := 0, pos := "bar.go:37", after := #[{ on := 16, ground := Ground.data }, { on := 9, ground := Ground.guard }], guard := some (9, true) }) (v := undef) rfl (by kernel_rfl) (by kernel_rfl) (by kernel_rfl) (fun _ _ _ h => h) (Or.inr ⟨by rfl, rfl⟩) hHeld ?_
  try simp only [Act.put, List.setIfInBounds_toArray, List.set_cons_zero, List.set_cons_succ]
  refine wpAnyH_take (i := 18) (oi := { dst := some 24, op := Op.load 3 (Operand.tmp 23), type := 3, pos := "bar.go:37", after := #[{ on := 17, ground := Ground.data }, { on := 9, ground := Ground.guard }], guard := some (9, true) }) (v := undef) rfl (by kernel_rfl) (by kernel_rfl) (by kernel_rfl) (fun _ _ _ h => h) (Or.inr ⟨by rfl, rfl⟩) hHeld ?_
  try simp only [Act.put, List.setIfInBounds_toArray, List.set_cons_zero, List.set_cons_succ]
  refine wpAnyH_take (i := 19) (oi := { dst := some 25, op := Op.binOp BinOp.lss 3 (Operand.tmp 18) (Operand.tmp 24) 3, type := 4, pos := "bar.go:37", after := #[{ on := 12, ground := Ground.data }, { on := 18, ground := Ground.data }, { on := 9, ground := Ground.guard }], guard := some (9, true) }) (v := undef) rfl (by kernel_rfl) (by kernel_rfl) (by kernel_rfl) (fun _ _ _ h => h) (Or.inr ⟨by rfl, rfl⟩) hHeld ?_
  try simp only [Act.put, List.setIfInBounds_toArray, List.set_cons_zero, List.set_cons_succ]
  refine wpAnyH_take (i := 20) (oi := { dst := some 26, op := Op.pick (Operand.tmp 15) (Operand.tmp 25) (Operand.const (Value.bool false)), type := 4, pos := "bar.go:37", after := #[{ on := 9, ground := Ground.data }, { on := 19, ground := Ground.data }], guard := none }) (v := ?vg20) rfl (by kernel_rfl) (by kernel_rfl) (by kernel_rfl) (fun _ _ _ h => h) (Or.inl ⟨by rfl, ?hyg20⟩) hHeld ?_
  case hyg20 => (intro w hSw; (try dsimp only at hSw); go_simp; (try with_reducible rfl))
  try simp only [Act.put, List.setIfInBounds_toArray, List.set_cons_zero, List.set_cons_succ]
  refine wpAnyH_done (by kernel_rfl) ?_ _
  clear hHeld hK k2 a0 a1 a2 a3 a4 a5 a6 a7 a8 af
  have HC1 := Lib.hid HC0.out.drew
  clear HC0
  generalize V.drew = V1 at *
  obtain ⟨a0, a1, a2, a3, a4, a5, a6, a7, a8, af⟩ := HC1.out.cells
  dsimp only at a0 a1 a2 a3 a4 a5 a6 a7 a8
  have HC2 := Lib.hid ((HC1.out.setL q).setM 0)
  clear HC1
  go_wp2_with fail
  refine bodyPost_end (v := .tuple #[]) (by simp [results, Tryz.f173, go_sem]) rfl ?_
  exact ⟨rfl, HC2.out⟩
theorem go_c {w V : World} {Kh X Y H A G : Nat} {C : Cf} {s : Dy} (l j c m a p : Int) (fd : Bool) (tl cy : Int) (HC : ColK w V Kh X Y H A G C s ⟨l, j, c, m, a, p, fd, tl, cy⟩) (hm : -1000000000000 ≤ m ∧ m ≤ 1000000000000) (n q : Int) :
    Calls Tryz.prog 173 #[.int .i64 n, .int .i64 q, .pointer (some ⟨X, 0, none⟩), .pointer (some ⟨Kh, 0, none⟩)] V fun e w' => e = .returned (.tuple #[]) ∧ ColK w w' Kh X Y H A G C s (nextMut C ⟨l, j, c, m, a, p, fd, tl, cy⟩ n q) := by
  unfold nextMut
  by_cases h2 : m + 1 < C.b
  · simp only [if_pos h2]; exact go_more l j c m a p fd tl cy HC hm (by omega) h2 n q
  · simp only [if_neg h2]
    by_cases h1 : m < C.b
    · exact go_end l j c m a p fd tl cy HC hm h1 h2 n q
    · exact go_out l j c m a p fd tl cy HC hm h1 n q
end Go.Proofs.YtbpooljohjkbjaaGreatDoor
