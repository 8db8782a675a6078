/- A step of the document's layer 15: line 1. -/
import Derived.Test.YthdcapkchjamoaaGreatDoorM7
import Derived.Test.YthdcapkchjamoaaGreatDoorPlaceRef
namespace Go.Proofs.YthdcapkchjamoaaGreatDoor
open Go Go.RowKit
set_option maxRecDepth 100000
attribute [local go_sem ↓] Go.wp_at_zero Go.wp_at_succ

set_option maxHeartbeats 3200000 in
theorem rroStep_cell {w : World} {X : Nat} {va : Option Addr} {cap N : Nat} {C : Cf} {s : Dy} (hH : RAt w X va cap N C s) (hL : ∀ R, va = some ⟨R, 0, none⟩ → R < w.heap.size) (_ : Right C.a C.b C.c C.d) (j c m a p : Int) (fd : Bool) (tl cy : Int) (_ : -1000000000000 ≤ j ∧ j ≤ 1000000000000) (u : Nat) (hu6 : u < 18446744073709551616) (hT : z5 C.n 1 (rootP C.a C.b C.c C.d j) (s.f (rootP C.a C.b C.c C.d j).toNat) = (u : Int)) (hc : isC u) :
    Calls Tryz.prog 27 #[.pointer (some ⟨X, 0, none⟩), (colV 1 j c m a p fd tl cy)] w (RP w X va cap N C (s.act C 1 (rootP C.a C.b C.c C.d j) 0 0) (.tuple #[(colV 2 j c m a (u : Int) fd tl cy), .bool true])) := by
  have HC0 := Lib.hid (ColR.start hH hL ⟨1, j, c, m, a, p, fd, tl, cy⟩)
  have HRt : Hid (∀ W, Calls Tryz.prog 49 #[(.agg #[.int .i64 C.a, .int .i64 C.b, .int .i64 C.c, .int .i64 C.d]), .int .i64 j] W fun e w' => e = .returned (.int .i64 (rootP C.a C.b C.c C.d j)) ∧ Below W.heap.size W w') := Lib.hid (fun W => refRoot_c C.a C.b C.c C.d j W)
  have HD : Hid (∀ W, RAt W X va cap N C s → (∀ R, va = some ⟨R, 0, none⟩ → R < W.heap.size) → Calls Tryz.prog 48 #[.pointer (some ⟨X, 0, none⟩), .int .i64 (rootP C.a C.b C.c C.d j)] W (RP W X va cap N C (s.act C 1 (rootP C.a C.b C.c C.d j) 0 0) (.int .u64 (z5 C.n 1 (rootP C.a C.b C.c C.d j) (s.f ((rootP C.a C.b C.c C.d j)).toNat))))) := Lib.hid (fun W hW hl => rLoad_c (w := W) hW hl (rootP C.a C.b C.c C.d j))
  have hk0 : (0 : Int) ≤ ((u / 2 : Nat) : Int) := by omega
  have HI : Hid (∀ W, Calls Tryz.prog 50 #[.int .u64 (u : Int)] W fun e w' => e = .returned (.int .i64 ((u / 2 : Nat) : Int)) ∧ W = w') := Lib.hid (fun W => refIsCell_cell u hc.2 hc.1 W)
  generalize u / 2 = k at *
  generalize (s.act C 1 (rootP C.a C.b C.c C.d j) 0 0) = s' at *
  generalize (z5 C.n 1 (rootP C.a C.b C.c C.d j) (s.f ((rootP C.a C.b C.c C.d j)).toNat)) = T at *
  generalize (rootP C.a C.b C.c C.d j) = P at *
  subst hT
  clear hH hL hc hu6
  obtain ⟨a0, a1, a2, a3, a4, a5, a6, a7, a8, af⟩ := HC0.out.cells
  dsimp only at a0 a1 a2 a3 a4 a5 a6 a7 a8
  obtain ⟨_, ⟨h1, h2, h3, h4⟩, _⟩ := HC0.out.hand.cells
  go_enter Tryz.func27, Tryz.ntmps27
  go_wp2_with fail
  refine wp_region_held_drew (S := (fun w' => w'.cell? ⟨X, 0, none⟩ = some (.int .i64 C.a) ∧ w'.cell? ⟨X, 1, none⟩ = some (.int .i64 C.b) ∧ w'.cell? ⟨X, 2, none⟩ = some (.int .i64 C.c) ∧ w'.cell? ⟨X, 3, none⟩ = some (.int .i64 C.d) ∧ w'.cell? ⟨w.heap.size, 1, none⟩ = some (.int .i64 j))) (by kernel_rfl) ?_ (fun hHeld => ?_)
  · exact ⟨h1, h2, h3, h4, a1⟩
  refine wpAnyH_take (i := 0) (oi := { dst := some 19, op := Op.move (Operand.tmp 0), type := 33, pos := "ref.go:18", after := #[], guard := none }) (v := ?vq0) rfl (by kernel_rfl) (by kernel_rfl) (by kernel_rfl) (fun _ _ _ h => h) (Or.inl ⟨by rfl, ?hyq0⟩) hHeld ?_
  case hyq0 => (intro w hSw; (try dsimp only at hSw); go_simp; (try with_reducible rfl))
  try simp only [Act.put, List.setIfInBounds_toArray, List.set_cons_zero, List.set_cons_succ]
  refine wpAnyH_take (i := 1) (oi := { dst := some 20, op := Op.move (Operand.tmp 0), type := 33, pos := "ref.go:18", after := #[], guard := none }) (v := ?vq1) rfl (by kernel_rfl) (by kernel_rfl) (by kernel_rfl) (fun _ _ _ h => h) (Or.inl ⟨by rfl, ?hyq1⟩) hHeld ?_
  case hyq1 => (intro w hSw; (try dsimp only at hSw); go_simp; (try with_reducible rfl))
  try simp only [Act.put, List.setIfInBounds_toArray, List.set_cons_zero, List.set_cons_succ]
  refine wpAnyH_take (i := 2) (oi := { dst := some 21, op := Op.nilCheck (Operand.tmp 20), type := 0, pos := "ref.go:18", after := #[{ on := 1, ground := Ground.data }], guard := none }) (v := ?vq2) rfl (by kernel_rfl) (by kernel_rfl) (by kernel_rfl) (fun _ _ _ h => h) (Or.inl ⟨by rfl, ?hyq2⟩) hHeld ?_
  case hyq2 => (intro w hSw; (try dsimp only at hSw); go_simp; (try with_reducible rfl))
  try simp only [Act.put, List.setIfInBounds_toArray, List.set_cons_zero, List.set_cons_succ]
  refine wpAnyH_take (i := 3) (oi := { dst := some 22, op := Op.fieldAddr 59 (Operand.tmp 21) 0, type := 0, pos := "ref.go:18", after := #[{ on := 2, ground := Ground.data }], guard := none }) (v := ?vq3) rfl (by kernel_rfl) (by kernel_rfl) (by kernel_rfl) (fun _ _ _ h => h) (Or.inl ⟨by rfl, ?hyq3⟩) hHeld ?_
  case hyq3 => (intro w hSw; (try dsimp only at hSw); go_simp; (try with_reducible rfl))
  try simp only [Act.put, List.setIfInBounds_toArray, List.set_cons_zero, List.set_cons_succ]
  refine wpAnyH_take (i := 4) (oi := { dst := some 23, op := Op.load 23 (Operand.tmp 22), type := 23, pos := "ref.go:18", after := #[{ on := 3, ground := Ground.data }], guard := none }) (v := ?vq4) rfl (by kernel_rfl) (by kernel_rfl) (by kernel_rfl) (fun _ _ _ h => h) (Or.inl ⟨by rfl, ?hyq4⟩) hHeld ?_
  case hyq4 => (intro w hSw; (try dsimp only at hSw); go_simp; (try with_reducible rfl))
  try simp only [Act.put, List.setIfInBounds_toArray, List.set_cons_zero, List.set_cons_succ]
  refine wpAnyH_take (i := 5) (oi := { dst := some 24, op := Op.fieldAddr 28 (Operand.tmp 3) 1, type := 0, pos := "ref.go:18", after := #[], guard := none }) (v := ?vq5) rfl (by kernel_rfl) (by kernel_rfl) (by kernel_rfl) (fun _ _ _ h => h) (Or.inl ⟨by rfl, ?hyq5⟩) hHeld ?_
  case hyq5 => (intro w hSw; (try dsimp only at hSw); go_simp; (try with_reducible rfl))
  try simp only [Act.put, List.setIfInBounds_toArray, List.set_cons_zero, List.set_cons_succ]
  refine wpAnyH_take (i := 6) (oi := { dst := some 25, op := Op.load 3 (Operand.tmp 24), type := 3, pos := "ref.go:18", after := #[{ on := 5, ground := Ground.data }], guard := none }) (v := ?vq6) rfl (by kernel_rfl) (by kernel_rfl) (by kernel_rfl) (fun _ _ _ h => h) (Or.inl ⟨by rfl, ?hyq6⟩) hHeld ?_
  case hyq6 => (intro w hSw; (try dsimp only at hSw); go_simp; (try with_reducible rfl))
  try simp only [Act.put, List.setIfInBounds_toArray, List.set_cons_zero, List.set_cons_succ]
  refine wpAnyH_ready (rs := [7]) (by kernel_rfl) (by simp) ?_
  refine AllReadyH.cons (o := { dst := some 26, op := Op.call { callee := Callee.value (Operand.func 49), args := #[Operand.tmp 23, Operand.tmp 25], argTypes := #[23, 3] }, type := 3, pos := "ref.go:18", after := #[{ on := 4, ground := Ground.data }, { on := 6, ground := Ground.data }], guard := none }) rfl (fun K hK => ?_) AllReadyH.nil
  go_simp
  have HC1 := Lib.hid HC0.out.drew
  clear HC0
  refine (HRt.out _).mono ?_
  rintro e V1 ⟨rfl, hb⟩
  have HC2 := Lib.hid (HC1.out.below hb)
  clear HC1
  clear hb
  clear hHeld HRt h1 h2 h3 h4 a0 a1 a2 a3 a4 a5 a6 a7 a8 af
  obtain ⟨a0, a1, a2, a3, a4, a5, a6, a7, a8, af⟩ := HC2.out.cells
  dsimp only at a0 a1 a2 a3 a4 a5 a6 a7 a8
  obtain ⟨_, ⟨h1, h2, h3, h4⟩, _⟩ := HC2.out.hand.cells
  refine hK.out _ _ ?_ (fun hHeld => ?_)
  · exact ⟨h1, h2, h3, h4, a1⟩
  clear hK K
  try simp only [Act.put, List.setIfInBounds_toArray, List.set_cons_zero, List.set_cons_succ]
  refine wpAnyH_ready (rs := [8]) (by kernel_rfl) (by simp) ?_
  refine AllReadyH.cons (o := { dst := some 27, op := Op.call { callee := Callee.value (Operand.func 48), args := #[Operand.tmp 19, Operand.tmp 26], argTypes := #[33, 3] }, type := 26, pos := "ref.go:18", after := #[{ on := 0, ground := Ground.data }, { on := 7, ground := Ground.data }, { on := 7, ground := Ground.chain }], guard := none }) rfl (fun K hK => ?_) AllReadyH.nil
  go_simp
  refine (HD.out _ HC2.out.hand HC2.out.ltR).mono ?_
  rintro e V2 ⟨rfl, hF, hs⟩
  have HC3 := Lib.hid (HC2.out.handed hF hs)
  clear HC2 hF hs
  clear hHeld HD h1 h2 h3 h4 a0 a1 a2 a3 a4 a5 a6 a7 a8 af
  obtain ⟨a0, a1, a2, a3, a4, a5, a6, a7, a8, af⟩ := HC3.out.cells
  dsimp only at a0 a1 a2 a3 a4 a5 a6 a7 a8
  obtain ⟨_, ⟨h1, h2, h3, h4⟩, _⟩ := HC3.out.hand.cells
  refine hK.out _ _ ?_ (fun hHeld => ?_)
  · exact ⟨h1, h2, h3, h4, a1⟩
  clear hK K
  try simp only [Act.put, List.setIfInBounds_toArray, List.set_cons_zero, List.set_cons_succ]
  refine wpAnyH_take (i := 9) (oi := { dst := some 6, op := Op.assign (Operand.tmp 27), type := 26, pos := "ref.go:18", after := #[{ on := 8, ground := Ground.data }, { on := 8, ground := Ground.chain }, { on := 0, ground := Ground.phase }, { on := 1, ground := Ground.phase }, { on := 2, ground := Ground.phase }, { on := 3, ground := Ground.phase }, { on := 4, ground := Ground.phase }, { on := 5, ground := Ground.phase }, { on := 6, ground := Ground.phase }, { on := 7, ground := Ground.phase }, { on := 8, ground := Ground.phase }], guard := none }) (v := ?vq9) rfl (by kernel_rfl) (by kernel_rfl) (by kernel_rfl) (fun _ _ _ h => h) (Or.inl ⟨by rfl, ?hyq9⟩) hHeld ?_
  case hyq9 => (intro w hSw; (try dsimp only at hSw); go_simp; (try with_reducible rfl))
  try simp only [Act.put, List.setIfInBounds_toArray, List.set_cons_zero, List.set_cons_succ]
  refine wpAnyH_done (by kernel_rfl) ?_ _
  clear hHeld h1 h2 h3 h4
  go_wp2_with fail
  refine (HI.out _).mono ?_
  rintro e V3 ⟨rfl, rfl⟩
  clear HI
  clear a0 a1 a2 a3 a4 a5 a6 a7 a8 af
  have HCe := Lib.hid ((HC3.out.setP (u : Int)).setL 2)
  obtain ⟨b0, b1, b2, b3, b4, b5, b6, b7, b8, bf⟩ := HC3.out.cells
  dsimp only at b0 b1 b2 b3 b4 b5 b6 b7 b8
  obtain ⟨d0, d1, d2, d3, d4, d5, d6, d7, d8, df⟩ := HCe.out.cells
  dsimp only at d0 d1 d2 d3 d4 d5 d6 d7 d8
  obtain ⟨c0, c1, c2, c3, c4, c5, c6, c7, c8, cf⟩ := HCe.out.cellsY
  obtain ⟨s0, s1, s2, s3, s4, s5, s6, s7, s8, sf⟩ := (HCe.out.last ⟨2, j, c, m, a, (u : Int), fd, tl, cy⟩).cells
  dsimp only at s0 s1 s2 s3 s4 s5 s6 s7 s8
  clear HC3 
  go_wp2_with fail
  refine bodyPost_ret (v := .tuple #[(colV 2 j c m a (u : Int) fd tl cy), .bool true]) (by simp [results, Tryz.f27, go_sem, s0, s1, s2, s3, s4, s5, s6, s7, s8]) rfl ?_
  exact ⟨rfl, HCe.out.fin ⟨2, j, c, m, a, (u : Int), fd, tl, cy⟩⟩
set_option maxHeartbeats 3200000 in
theorem rroStep_more {w : World} {X : Nat} {va : Option Addr} {cap N : Nat} {C : Cf} {s : Dy} (hH : RAt w X va cap N C s) (hL : ∀ R, va = some ⟨R, 0, none⟩ → R < w.heap.size) (hr : Right C.a C.b C.c C.d) (j c m a p : Int) (fd : Bool) (tl cy : Int) (hj : -1000000000000 ≤ j ∧ j ≤ 1000000000000) (u : Nat) (hu6 : u < 18446744073709551616) (hT : z5 C.n 1 (rootP C.a C.b C.c C.d j) (s.f (rootP C.a C.b C.c C.d j).toNat) = (u : Int)) (hc : ¬ isC u) (hm : j + 1 < (1 + C.d + C.b * C.c)) :
    Calls Tryz.prog 27 #[.pointer (some ⟨X, 0, none⟩), (colV 1 j c m a p fd tl cy)] w (RP w X va cap N C (s.act C 1 (rootP C.a C.b C.c C.d j) 0 0) (.tuple #[(colV 1 (j + 1) c m a 0 fd tl cy), .bool true])) := by
  have HC0 := Lib.hid (ColR.start hH hL ⟨1, j, c, m, a, p, fd, tl, cy⟩)
  have HRt : Hid (∀ W, Calls Tryz.prog 49 #[(.agg #[.int .i64 C.a, .int .i64 C.b, .int .i64 C.c, .int .i64 C.d]), .int .i64 j] W fun e w' => e = .returned (.int .i64 (rootP C.a C.b C.c C.d j)) ∧ Below W.heap.size W w') := Lib.hid (fun W => refRoot_c C.a C.b C.c C.d j W)
  have HD : Hid (∀ W, RAt W X va cap N C s → (∀ R, va = some ⟨R, 0, none⟩ → R < W.heap.size) → Calls Tryz.prog 48 #[.pointer (some ⟨X, 0, none⟩), .int .i64 (rootP C.a C.b C.c C.d j)] W (RP W X va cap N C (s.act C 1 (rootP C.a C.b C.c C.d j) 0 0) (.int .u64 (z5 C.n 1 (rootP C.a C.b C.c C.d j) (s.f ((rootP C.a C.b C.c C.d j)).toNat))))) := Lib.hid (fun W hW hl => rLoad_c (w := W) hW hl (rootP C.a C.b C.c C.d j))
  have HI : Hid (∀ W, Calls Tryz.prog 50 #[.int .u64 (u : Int)] W fun e w' => e = .returned (.int .i64 (-1)) ∧ W = w') := Lib.hid (fun W => refIsCell_no u hu6 hc W)
  have HRo : Hid (∀ W, Calls Tryz.prog 38 #[(.agg #[.int .i64 C.a, .int .i64 C.b, .int .i64 C.c, .int .i64 C.d])] W fun e w' => e = .returned (.int .i64 (1 + C.d + C.b * C.c)) ∧ Below W.heap.size W w') := Lib.hid (fun W => refRoots_right C.a C.b C.c C.d hr W)
  generalize (1 + C.d + C.b * C.c) = nn at *
  have hw1 : IntKind.i64.wrap (j + 1) = j + 1 := IntWalk.i64_in _ (by omega)
  have hd : decide (j + 1 < nn) = true := decide_eq_true hm
  clear hm
  generalize (s.act C 1 (rootP C.a C.b C.c C.d j) 0 0) = s' at *
  generalize (z5 C.n 1 (rootP C.a C.b C.c C.d j) (s.f ((rootP C.a C.b C.c C.d j)).toNat)) = T at *
  generalize (rootP C.a C.b C.c C.d j) = P at *
  subst hT
  clear hH hL hr hc hu6 hj
  obtain ⟨a0, a1, a2, a3, a4, a5, a6, a7, a8, af⟩ := HC0.out.cells
  dsimp only at a0 a1 a2 a3 a4 a5 a6 a7 a8
  obtain ⟨_, ⟨h1, h2, h3, h4⟩, _⟩ := HC0.out.hand.cells
  go_enter Tryz.func27, Tryz.ntmps27
  go_wp2_with fail
  refine wp_region_held_drew (S := (fun w' => w'.cell? ⟨X, 0, none⟩ = some (.int .i64 C.a) ∧ w'.cell? ⟨X, 1, none⟩ = some (.int .i64 C.b) ∧ w'.cell? ⟨X, 2, none⟩ = some (.int .i64 C.c) ∧ w'.cell? ⟨X, 3, none⟩ = some (.int .i64 C.d) ∧ w'.cell? ⟨w.heap.size, 1, none⟩ = some (.int .i64 j))) (by kernel_rfl) ?_ (fun hHeld => ?_)
  · exact ⟨h1, h2, h3, h4, a1⟩
  refine wpAnyH_take (i := 0) (oi := { dst := some 19, op := Op.move (Operand.tmp 0), type := 33, pos := "ref.go:18", after := #[], guard := none }) (v := ?vq0) rfl (by kernel_rfl) (by kernel_rfl) (by kernel_rfl) (fun _ _ _ h => h) (Or.inl ⟨by rfl, ?hyq0⟩) hHeld ?_
  case hyq0 => (intro w hSw; (try dsimp only at hSw); go_simp; (try with_reducible rfl))
  try simp only [Act.put, List.setIfInBounds_toArray, List.set_cons_zero, List.set_cons_succ]
  refine wpAnyH_take (i := 1) (oi := { dst := some 20, op := Op.move (Operand.tmp 0), type := 33, pos := "ref.go:18", after := #[], guard := none }) (v := ?vq1) rfl (by kernel_rfl) (by kernel_rfl) (by kernel_rfl) (fun _ _ _ h => h) (Or.inl ⟨by rfl, ?hyq1⟩) hHeld ?_
  case hyq1 => (intro w hSw; (try dsimp only at hSw); go_simp; (try with_reducible rfl))
  try simp only [Act.put, List.setIfInBounds_toArray, List.set_cons_zero, List.set_cons_succ]
  refine wpAnyH_take (i := 2) (oi := { dst := some 21, op := Op.nilCheck (Operand.tmp 20), type := 0, pos := "ref.go:18", after := #[{ on := 1, ground := Ground.data }], guard := none }) (v := ?vq2) rfl (by kernel_rfl) (by kernel_rfl) (by kernel_rfl) (fun _ _ _ h => h) (Or.inl ⟨by rfl, ?hyq2⟩) hHeld ?_
  case hyq2 => (intro w hSw; (try dsimp only at hSw); go_simp; (try with_reducible rfl))
  try simp only [Act.put, List.setIfInBounds_toArray, List.set_cons_zero, List.set_cons_succ]
  refine wpAnyH_take (i := 3) (oi := { dst := some 22, op := Op.fieldAddr 59 (Operand.tmp 21) 0, type := 0, pos := "ref.go:18", after := #[{ on := 2, ground := Ground.data }], guard := none }) (v := ?vq3) rfl (by kernel_rfl) (by kernel_rfl) (by kernel_rfl) (fun _ _ _ h => h) (Or.inl ⟨by rfl, ?hyq3⟩) hHeld ?_
  case hyq3 => (intro w hSw; (try dsimp only at hSw); go_simp; (try with_reducible rfl))
  try simp only [Act.put, List.setIfInBounds_toArray, List.set_cons_zero, List.set_cons_succ]
  refine wpAnyH_take (i := 4) (oi := { dst := some 23, op := Op.load 23 (Operand.tmp 22), type := 23, pos := "ref.go:18", after := #[{ on := 3, ground := Ground.data }], guard := none }) (v := ?vq4) rfl (by kernel_rfl) (by kernel_rfl) (by kernel_rfl) (fun _ _ _ h => h) (Or.inl ⟨by rfl, ?hyq4⟩) hHeld ?_
  case hyq4 => (intro w hSw; (try dsimp only at hSw); go_simp; (try with_reducible rfl))
  try simp only [Act.put, List.setIfInBounds_toArray, List.set_cons_zero, List.set_cons_succ]
  refine wpAnyH_take (i := 5) (oi := { dst := some 24, op := Op.fieldAddr 28 (Operand.tmp 3) 1, type := 0, pos := "ref.go:18", after := #[], guard := none }) (v := ?vq5) rfl (by kernel_rfl) (by kernel_rfl) (by kernel_rfl) (fun _ _ _ h => h) (Or.inl ⟨by rfl, ?hyq5⟩) hHeld ?_
  case hyq5 => (intro w hSw; (try dsimp only at hSw); go_simp; (try with_reducible rfl))
  try simp only [Act.put, List.setIfInBounds_toArray, List.set_cons_zero, List.set_cons_succ]
  refine wpAnyH_take (i := 6) (oi := { dst := some 25, op := Op.load 3 (Operand.tmp 24), type := 3, pos := "ref.go:18", after := #[{ on := 5, ground := Ground.data }], guard := none }) (v := ?vq6) rfl (by kernel_rfl) (by kernel_rfl) (by kernel_rfl) (fun _ _ _ h => h) (Or.inl ⟨by rfl, ?hyq6⟩) hHeld ?_
  case hyq6 => (intro w hSw; (try dsimp only at hSw); go_simp; (try with_reducible rfl))
  try simp only [Act.put, List.setIfInBounds_toArray, List.set_cons_zero, List.set_cons_succ]
  refine wpAnyH_ready (rs := [7]) (by kernel_rfl) (by simp) ?_
  refine AllReadyH.cons (o := { dst := some 26, op := Op.call { callee := Callee.value (Operand.func 49), args := #[Operand.tmp 23, Operand.tmp 25], argTypes := #[23, 3] }, type := 3, pos := "ref.go:18", after := #[{ on := 4, ground := Ground.data }, { on := 6, ground := Ground.data }], guard := none }) rfl (fun K hK => ?_) AllReadyH.nil
  go_simp
  have HC1 := Lib.hid HC0.out.drew
  clear HC0
  refine (HRt.out _).mono ?_
  rintro e V1 ⟨rfl, hb⟩
  have HC2 := Lib.hid (HC1.out.below hb)
  clear HC1
  clear hb
  clear hHeld HRt h1 h2 h3 h4 a0 a1 a2 a3 a4 a5 a6 a7 a8 af
  obtain ⟨a0, a1, a2, a3, a4, a5, a6, a7, a8, af⟩ := HC2.out.cells
  dsimp only at a0 a1 a2 a3 a4 a5 a6 a7 a8
  obtain ⟨_, ⟨h1, h2, h3, h4⟩, _⟩ := HC2.out.hand.cells
  refine hK.out _ _ ?_ (fun hHeld => ?_)
  · exact ⟨h1, h2, h3, h4, a1⟩
  clear hK K
  try simp only [Act.put, List.setIfInBounds_toArray, List.set_cons_zero, List.set_cons_succ]
  refine wpAnyH_ready (rs := [8]) (by kernel_rfl) (by simp) ?_
  refine AllReadyH.cons (o := { dst := some 27, op := Op.call { callee := Callee.value (Operand.func 48), args := #[Operand.tmp 19, Operand.tmp 26], argTypes := #[33, 3] }, type := 26, pos := "ref.go:18", after := #[{ on := 0, ground := Ground.data }, { on := 7, ground := Ground.data }, { on := 7, ground := Ground.chain }], guard := none }) rfl (fun K hK => ?_) AllReadyH.nil
  go_simp
  refine (HD.out _ HC2.out.hand HC2.out.ltR).mono ?_
  rintro e V2 ⟨rfl, hF, hs⟩
  have HC3 := Lib.hid (HC2.out.handed hF hs)
  clear HC2 hF hs
  clear hHeld HD h1 h2 h3 h4 a0 a1 a2 a3 a4 a5 a6 a7 a8 af
  obtain ⟨a0, a1, a2, a3, a4, a5, a6, a7, a8, af⟩ := HC3.out.cells
  dsimp only at a0 a1 a2 a3 a4 a5 a6 a7 a8
  obtain ⟨_, ⟨h1, h2, h3, h4⟩, _⟩ := HC3.out.hand.cells
  refine hK.out _ _ ?_ (fun hHeld => ?_)
  · exact ⟨h1, h2, h3, h4, a1⟩
  clear hK K
  try simp only [Act.put, List.setIfInBounds_toArray, List.set_cons_zero, List.set_cons_succ]
  refine wpAnyH_take (i := 9) (oi := { dst := some 6, op := Op.assign (Operand.tmp 27), type := 26, pos := "ref.go:18", after := #[{ on := 8, ground := Ground.data }, { on := 8, ground := Ground.chain }, { on := 0, ground := Ground.phase }, { on := 1, ground := Ground.phase }, { on := 2, ground := Ground.phase }, { on := 3, ground := Ground.phase }, { on := 4, ground := Ground.phase }, { on := 5, ground := Ground.phase }, { on := 6, ground := Ground.phase }, { on := 7, ground := Ground.phase }, { on := 8, ground := Ground.phase }], guard := none }) (v := ?vq9) rfl (by kernel_rfl) (by kernel_rfl) (by kernel_rfl) (fun _ _ _ h => h) (Or.inl ⟨by rfl, ?hyq9⟩) hHeld ?_
  case hyq9 => (intro w hSw; (try dsimp only at hSw); go_simp; (try with_reducible rfl))
  try simp only [Act.put, List.setIfInBounds_toArray, List.set_cons_zero, List.set_cons_succ]
  refine wpAnyH_done (by kernel_rfl) ?_ _
  clear hHeld h1 h2 h3 h4
  go_wp2_with fail
  refine (HI.out _).mono ?_
  rintro e V3 ⟨rfl, rfl⟩
  clear HI
  go_wp2_with fail
  have HC4 := Lib.hid (((HC3.out.setP 0).setJ (j + 1)).setL 3)
  clear HC3 a0 a1 a2 a3 a4 a5 a6 a7 a8 af
  obtain ⟨a0, a1, a2, a3, a4, a5, a6, a7, a8, af⟩ := HC4.out.cells
  dsimp only at a0 a1 a2 a3 a4 a5 a6 a7 a8
  obtain ⟨_, ⟨h1, h2, h3, h4⟩, _⟩ := HC4.out.hand.cells
  refine wp_region_held_drew (S := (fun w' => w'.cell? ⟨X, 0, none⟩ = some (.int .i64 C.a) ∧ w'.cell? ⟨X, 1, none⟩ = some (.int .i64 C.b) ∧ w'.cell? ⟨X, 2, none⟩ = some (.int .i64 C.c) ∧ w'.cell? ⟨X, 3, none⟩ = some (.int .i64 C.d) ∧ w'.cell? ⟨w.heap.size, 1, none⟩ = some (.int .i64 (j + 1)))) (by kernel_rfl) ?_ (fun hHeld => ?_)
  · exact ⟨h1, h2, h3, h4, a1⟩
  refine wpAnyH_take (i := 0) (oi := { dst := some 47, op := Op.fieldAddr 28 (Operand.tmp 3) 1, type := 0, pos := "ref.go:30", after := #[], guard := none }) (v := ?vz0) rfl (by kernel_rfl) (by kernel_rfl) (by kernel_rfl) (fun _ _ _ h => h) (Or.inl ⟨by rfl, ?hyz0⟩) hHeld ?_
  case hyz0 => (intro w hSw; (try dsimp only at hSw); go_simp; (try with_reducible rfl))
  try simp only [Act.put, List.setIfInBounds_toArray, List.set_cons_zero, List.set_cons_succ]
  refine wpAnyH_take (i := 1) (oi := { dst := some 48, op := Op.load 3 (Operand.tmp 47), type := 3, pos := "ref.go:30", after := #[{ on := 0, ground := Ground.data }], guard := none }) (v := ?vz1) rfl (by kernel_rfl) (by kernel_rfl) (by kernel_rfl) (fun _ _ _ h => h) (Or.inl ⟨by rfl, ?hyz1⟩) hHeld ?_
  case hyz1 => (intro w hSw; (try dsimp only at hSw); go_simp; (try with_reducible rfl))
  try simp only [Act.put, List.setIfInBounds_toArray, List.set_cons_zero, List.set_cons_succ]
  refine wpAnyH_take (i := 2) (oi := { dst := some 49, op := Op.move (Operand.tmp 0), type := 33, pos := "ref.go:30", after := #[], guard := none }) (v := ?vz2) rfl (by kernel_rfl) (by kernel_rfl) (by kernel_rfl) (fun _ _ _ h => h) (Or.inl ⟨by rfl, ?hyz2⟩) hHeld ?_
  case hyz2 => (intro w hSw; (try dsimp only at hSw); go_simp; (try with_reducible rfl))
  try simp only [Act.put, List.setIfInBounds_toArray, List.set_cons_zero, List.set_cons_succ]
  refine wpAnyH_take (i := 3) (oi := { dst := some 50, op := Op.nilCheck (Operand.tmp 49), type := 0, pos := "ref.go:30", after := #[{ on := 2, ground := Ground.data }], guard := none }) (v := ?vz3) rfl (by kernel_rfl) (by kernel_rfl) (by kernel_rfl) (fun _ _ _ h => h) (Or.inl ⟨by rfl, ?hyz3⟩) hHeld ?_
  case hyz3 => (intro w hSw; (try dsimp only at hSw); go_simp; (try with_reducible rfl))
  try simp only [Act.put, List.setIfInBounds_toArray, List.set_cons_zero, List.set_cons_succ]
  refine wpAnyH_take (i := 4) (oi := { dst := some 51, op := Op.fieldAddr 59 (Operand.tmp 50) 0, type := 0, pos := "ref.go:30", after := #[{ on := 3, ground := Ground.data }], guard := none }) (v := ?vz4) rfl (by kernel_rfl) (by kernel_rfl) (by kernel_rfl) (fun _ _ _ h => h) (Or.inl ⟨by rfl, ?hyz4⟩) hHeld ?_
  case hyz4 => (intro w hSw; (try dsimp only at hSw); go_simp; (try with_reducible rfl))
  try simp only [Act.put, List.setIfInBounds_toArray, List.set_cons_zero, List.set_cons_succ]
  refine wpAnyH_take (i := 5) (oi := { dst := some 52, op := Op.load 23 (Operand.tmp 51), type := 23, pos := "ref.go:30", after := #[{ on := 4, ground := Ground.data }], guard := none }) (v := ?vz5) rfl (by kernel_rfl) (by kernel_rfl) (by kernel_rfl) (fun _ _ _ h => h) (Or.inl ⟨by rfl, ?hyz5⟩) hHeld ?_
  case hyz5 => (intro w hSw; (try dsimp only at hSw); go_simp; (try with_reducible rfl))
  try simp only [Act.put, List.setIfInBounds_toArray, List.set_cons_zero, List.set_cons_succ]
  refine wpAnyH_ready (rs := [6]) (by kernel_rfl) (by simp) ?_
  refine AllReadyH.cons (o := { dst := some 53, op := Op.call { callee := Callee.value (Operand.func 38), args := #[Operand.tmp 52], argTypes := #[23] }, type := 3, pos := "ref.go:30", after := #[{ on := 5, ground := Ground.data }], guard := none }) rfl (fun K hK => ?_) AllReadyH.nil
  go_simp
  have HC5 := Lib.hid HC4.out.drew
  clear HC4
  refine (HRo.out _).mono ?_
  rintro e V4 ⟨rfl, hb⟩
  have HC6 := Lib.hid (HC5.out.below hb)
  clear HC5
  clear hb
  clear hHeld HRo h1 h2 h3 h4 a0 a1 a2 a3 a4 a5 a6 a7 a8 af
  obtain ⟨a0, a1, a2, a3, a4, a5, a6, a7, a8, af⟩ := HC6.out.cells
  dsimp only at a0 a1 a2 a3 a4 a5 a6 a7 a8
  obtain ⟨_, ⟨h1, h2, h3, h4⟩, _⟩ := HC6.out.hand.cells
  refine hK.out _ _ ?_ (fun hHeld => ?_)
  · exact ⟨h1, h2, h3, h4, a1⟩
  clear hK K
  try simp only [Act.put, List.setIfInBounds_toArray, List.set_cons_zero, List.set_cons_succ]
  refine wpAnyH_take (i := 7) (oi := { dst := some 54, op := Op.binOp BinOp.lss 3 (Operand.tmp 48) (Operand.tmp 53) 3, type := 4, pos := "ref.go:30", after := #[{ on := 1, ground := Ground.data }, { on := 6, ground := Ground.data }], guard := none }) (v := ?vz7) rfl (by kernel_rfl) (by kernel_rfl) (by kernel_rfl) (fun _ _ _ h => h) (Or.inl ⟨by rfl, ?hyz7⟩) hHeld ?_
  case hyz7 => (intro w hSw; (try dsimp only at hSw); go_simp; (try with_reducible rfl))
  try simp only [Act.put, List.setIfInBounds_toArray, List.set_cons_zero, List.set_cons_succ]
  refine wpAnyH_done (by kernel_rfl) ?_ _
  clear hHeld h1 h2 h3 h4 a0 a1 a2 a3 a4 a5 a6 a7 a8 af
  have HCe := Lib.hid (HC6.out.setL 1)
  obtain ⟨b0, b1, b2, b3, b4, b5, b6, b7, b8, bf⟩ := HC6.out.cells
  dsimp only at b0 b1 b2 b3 b4 b5 b6 b7 b8
  obtain ⟨d0, d1, d2, d3, d4, d5, d6, d7, d8, df⟩ := HCe.out.cells
  dsimp only at d0 d1 d2 d3 d4 d5 d6 d7 d8
  obtain ⟨c0, c1, c2, c3, c4, c5, c6, c7, c8, cf⟩ := HCe.out.cellsY
  obtain ⟨s0, s1, s2, s3, s4, s5, s6, s7, s8, sf⟩ := (HCe.out.last ⟨1, (j + 1), c, m, a, 0, fd, tl, cy⟩).cells
  dsimp only at s0 s1 s2 s3 s4 s5 s6 s7 s8
  clear HC6 
  go_wp2_with fail
  refine bodyPost_ret (v := .tuple #[(colV 1 (j + 1) c m a 0 fd tl cy), .bool true]) (by simp [results, Tryz.f27, go_sem, s0, s1, s2, s3, s4, s5, s6, s7, s8]) rfl ?_
  exact ⟨rfl, HCe.out.fin ⟨1, (j + 1), c, m, a, 0, fd, tl, cy⟩⟩
set_option maxHeartbeats 3200000 in
theorem rroStep_over {w : World} {X : Nat} {va : Option Addr} {cap N : Nat} {C : Cf} {s : Dy} (hH : RAt w X va cap N C s) (hL : ∀ R, va = some ⟨R, 0, none⟩ → R < w.heap.size) (hr : Right C.a C.b C.c C.d) (j c m a p : Int) (fd : Bool) (tl cy : Int) (hj : -1000000000000 ≤ j ∧ j ≤ 1000000000000) (u : Nat) (hu6 : u < 18446744073709551616) (hT : z5 C.n 1 (rootP C.a C.b C.c C.d j) (s.f (rootP C.a C.b C.c C.d j).toNat) = (u : Int)) (hc : ¬ isC u) (hm : ¬ j + 1 < (1 + C.d + C.b * C.c)) :
    Calls Tryz.prog 27 #[.pointer (some ⟨X, 0, none⟩), (colV 1 j c m a p fd tl cy)] w (RP w X va cap N C (s.act C 1 (rootP C.a C.b C.c C.d j) 0 0) (.tuple #[(colV 3 (j + 1) c m a 0 fd tl cy), .bool true])) := by
  have HC0 := Lib.hid (ColR.start hH hL ⟨1, j, c, m, a, p, fd, tl, cy⟩)
  have HRt : Hid (∀ W, Calls Tryz.prog 49 #[(.agg #[.int .i64 C.a, .int .i64 C.b, .int .i64 C.c, .int .i64 C.d]), .int .i64 j] W fun e w' => e = .returned (.int .i64 (rootP C.a C.b C.c C.d j)) ∧ Below W.heap.size W w') := Lib.hid (fun W => refRoot_c C.a C.b C.c C.d j W)
  have HD : Hid (∀ W, RAt W X va cap N C s → (∀ R, va = some ⟨R, 0, none⟩ → R < W.heap.size) → Calls Tryz.prog 48 #[.pointer (some ⟨X, 0, none⟩), .int .i64 (rootP C.a C.b C.c C.d j)] W (RP W X va cap N C (s.act C 1 (rootP C.a C.b C.c C.d j) 0 0) (.int .u64 (z5 C.n 1 (rootP C.a C.b C.c C.d j) (s.f ((rootP C.a C.b C.c C.d j)).toNat))))) := Lib.hid (fun W hW hl => rLoad_c (w := W) hW hl (rootP C.a C.b C.c C.d j))
  have HI : Hid (∀ W, Calls Tryz.prog 50 #[.int .u64 (u : Int)] W fun e w' => e = .returned (.int .i64 (-1)) ∧ W = w') := Lib.hid (fun W => refIsCell_no u hu6 hc W)
  have HRo : Hid (∀ W, Calls Tryz.prog 38 #[(.agg #[.int .i64 C.a, .int .i64 C.b, .int .i64 C.c, .int .i64 C.d])] W fun e w' => e = .returned (.int .i64 (1 + C.d + C.b * C.c)) ∧ Below W.heap.size W w') := Lib.hid (fun W => refRoots_right C.a C.b C.c C.d hr W)
  generalize (1 + C.d + C.b * C.c) = nn at *
  have hw1 : IntKind.i64.wrap (j + 1) = j + 1 := IntWalk.i64_in _ (by omega)
  have hd : decide (j + 1 < nn) = false := decide_eq_false hm
  clear hm
  generalize (s.act C 1 (rootP C.a C.b C.c C.d j) 0 0) = s' at *
  generalize (z5 C.n 1 (rootP C.a C.b C.c C.d j) (s.f ((rootP C.a C.b C.c C.d j)).toNat)) = T at *
  generalize (rootP C.a C.b C.c C.d j) = P at *
  subst hT
  clear hH hL hr hc hu6 hj
  obtain ⟨a0, a1, a2, a3, a4, a5, a6, a7, a8, af⟩ := HC0.out.cells
  dsimp only at a0 a1 a2 a3 a4 a5 a6 a7 a8
  obtain ⟨_, ⟨h1, h2, h3, h4⟩, _⟩ := HC0.out.hand.cells
  go_enter Tryz.func27, Tryz.ntmps27
  go_wp2_with fail
  refine wp_region_held_drew (S := (fun w' => w'.cell? ⟨X, 0, none⟩ = some (.int .i64 C.a) ∧ w'.cell? ⟨X, 1, none⟩ = some (.int .i64 C.b) ∧ w'.cell? ⟨X, 2, none⟩ = some (.int .i64 C.c) ∧ w'.cell? ⟨X, 3, none⟩ = some (.int .i64 C.d) ∧ w'.cell? ⟨w.heap.size, 1, none⟩ = some (.int .i64 j))) (by kernel_rfl) ?_ (fun hHeld => ?_)
  · exact ⟨h1, h2, h3, h4, a1⟩
  refine wpAnyH_take (i := 0) (oi := { dst := some 19, op := Op.move (Operand.tmp 0), type := 33, pos := "ref.go:18", after := #[], guard := none }) (v := ?vq0) rfl (by kernel_rfl) (by kernel_rfl) (by kernel_rfl) (fun _ _ _ h => h) (Or.inl ⟨by rfl, ?hyq0⟩) hHeld ?_
  case hyq0 => (intro w hSw; (try dsimp only at hSw); go_simp; (try with_reducible rfl))
  try simp only [Act.put, List.setIfInBounds_toArray, List.set_cons_zero, List.set_cons_succ]
  refine wpAnyH_take (i := 1) (oi := { dst := some 20, op := Op.move (Operand.tmp 0), type := 33, pos := "ref.go:18", after := #[], guard := none }) (v := ?vq1) rfl (by kernel_rfl) (by kernel_rfl) (by kernel_rfl) (fun _ _ _ h => h) (Or.inl ⟨by rfl, ?hyq1⟩) hHeld ?_
  case hyq1 => (intro w hSw; (try dsimp only at hSw); go_simp; (try with_reducible rfl))
  try simp only [Act.put, List.setIfInBounds_toArray, List.set_cons_zero, List.set_cons_succ]
  refine wpAnyH_take (i := 2) (oi := { dst := some 21, op := Op.nilCheck (Operand.tmp 20), type := 0, pos := "ref.go:18", after := #[{ on := 1, ground := Ground.data }], guard := none }) (v := ?vq2) rfl (by kernel_rfl) (by kernel_rfl) (by kernel_rfl) (fun _ _ _ h => h) (Or.inl ⟨by rfl, ?hyq2⟩) hHeld ?_
  case hyq2 => (intro w hSw; (try dsimp only at hSw); go_simp; (try with_reducible rfl))
  try simp only [Act.put, List.setIfInBounds_toArray, List.set_cons_zero, List.set_cons_succ]
  refine wpAnyH_take (i := 3) (oi := { dst := some 22, op := Op.fieldAddr 59 (Operand.tmp 21) 0, type := 0, pos := "ref.go:18", after := #[{ on := 2, ground := Ground.data }], guard := none }) (v := ?vq3) rfl (by kernel_rfl) (by kernel_rfl) (by kernel_rfl) (fun _ _ _ h => h) (Or.inl ⟨by rfl, ?hyq3⟩) hHeld ?_
  case hyq3 => (intro w hSw; (try dsimp only at hSw); go_simp; (try with_reducible rfl))
  try simp only [Act.put, List.setIfInBounds_toArray, List.set_cons_zero, List.set_cons_succ]
  refine wpAnyH_take (i := 4) (oi := { dst := some 23, op := Op.load 23 (Operand.tmp 22), type := 23, pos := "ref.go:18", after := #[{ on := 3, ground := Ground.data }], guard := none }) (v := ?vq4) rfl (by kernel_rfl) (by kernel_rfl) (by kernel_rfl) (fun _ _ _ h => h) (Or.inl ⟨by rfl, ?hyq4⟩) hHeld ?_
  case hyq4 => (intro w hSw; (try dsimp only at hSw); go_simp; (try with_reducible rfl))
  try simp only [Act.put, List.setIfInBounds_toArray, List.set_cons_zero, List.set_cons_succ]
  refine wpAnyH_take (i := 5) (oi := { dst := some 24, op := Op.fieldAddr 28 (Operand.tmp 3) 1, type := 0, pos := "ref.go:18", after := #[], guard := none }) (v := ?vq5) rfl (by kernel_rfl) (by kernel_rfl) (by kernel_rfl) (fun _ _ _ h => h) (Or.inl ⟨by rfl, ?hyq5⟩) hHeld ?_
  case hyq5 => (intro w hSw; (try dsimp only at hSw); go_simp; (try with_reducible rfl))
  try simp only [Act.put, List.setIfInBounds_toArray, List.set_cons_zero, List.set_cons_succ]
  refine wpAnyH_take (i := 6) (oi := { dst := some 25, op := Op.load 3 (Operand.tmp 24), type := 3, pos := "ref.go:18", after := #[{ on := 5, ground := Ground.data }], guard := none }) (v := ?vq6) rfl (by kernel_rfl) (by kernel_rfl) (by kernel_rfl) (fun _ _ _ h => h) (Or.inl ⟨by rfl, ?hyq6⟩) hHeld ?_
  case hyq6 => (intro w hSw; (try dsimp only at hSw); go_simp; (try with_reducible rfl))
  try simp only [Act.put, List.setIfInBounds_toArray, List.set_cons_zero, List.set_cons_succ]
  refine wpAnyH_ready (rs := [7]) (by kernel_rfl) (by simp) ?_
  refine AllReadyH.cons (o := { dst := some 26, op := Op.call { callee := Callee.value (Operand.func 49), args := #[Operand.tmp 23, Operand.tmp 25], argTypes := #[23, 3] }, type := 3, pos := "ref.go:18", after := #[{ on := 4, ground := Ground.data }, { on := 6, ground := Ground.data }], guard := none }) rfl (fun K hK => ?_) AllReadyH.nil
  go_simp
  have HC1 := Lib.hid HC0.out.drew
  clear HC0
  refine (HRt.out _).mono ?_
  rintro e V1 ⟨rfl, hb⟩
  have HC2 := Lib.hid (HC1.out.below hb)
  clear HC1
  clear hb
  clear hHeld HRt h1 h2 h3 h4 a0 a1 a2 a3 a4 a5 a6 a7 a8 af
  obtain ⟨a0, a1, a2, a3, a4, a5, a6, a7, a8, af⟩ := HC2.out.cells
  dsimp only at a0 a1 a2 a3 a4 a5 a6 a7 a8
  obtain ⟨_, ⟨h1, h2, h3, h4⟩, _⟩ := HC2.out.hand.cells
  refine hK.out _ _ ?_ (fun hHeld => ?_)
  · exact ⟨h1, h2, h3, h4, a1⟩
  clear hK K
  try simp only [Act.put, List.setIfInBounds_toArray, List.set_cons_zero, List.set_cons_succ]
  refine wpAnyH_ready (rs := [8]) (by kernel_rfl) (by simp) ?_
  refine AllReadyH.cons (o := { dst := some 27, op := Op.call { callee := Callee.value (Operand.func 48), args := #[Operand.tmp 19, Operand.tmp 26], argTypes := #[33, 3] }, type := 26, pos := "ref.go:18", after := #[{ on := 0, ground := Ground.data }, { on := 7, ground := Ground.data }, { on := 7, ground := Ground.chain }], guard := none }) rfl (fun K hK => ?_) AllReadyH.nil
  go_simp
  refine (HD.out _ HC2.out.hand HC2.out.ltR).mono ?_
  rintro e V2 ⟨rfl, hF, hs⟩
  have HC3 := Lib.hid (HC2.out.handed hF hs)
  clear HC2 hF hs
  clear hHeld HD h1 h2 h3 h4 a0 a1 a2 a3 a4 a5 a6 a7 a8 af
  obtain ⟨a0, a1, a2, a3, a4, a5, a6, a7, a8, af⟩ := HC3.out.cells
  dsimp only at a0 a1 a2 a3 a4 a5 a6 a7 a8
  obtain ⟨_, ⟨h1, h2, h3, h4⟩, _⟩ := HC3.out.hand.cells
  refine hK.out _ _ ?_ (fun hHeld => ?_)
  · exact ⟨h1, h2, h3, h4, a1⟩
  clear hK K
  try simp only [Act.put, List.setIfInBounds_toArray, List.set_cons_zero, List.set_cons_succ]
  refine wpAnyH_take (i := 9) (oi := { dst := some 6, op := Op.assign (Operand.tmp 27), type := 26, pos := "ref.go:18", after := #[{ on := 8, ground := Ground.data }, { on := 8, ground := Ground.chain }, { on := 0, ground := Ground.phase }, { on := 1, ground := Ground.phase }, { on := 2, ground := Ground.phase }, { on := 3, ground := Ground.phase }, { on := 4, ground := Ground.phase }, { on := 5, ground := Ground.phase }, { on := 6, ground := Ground.phase }, { on := 7, ground := Ground.phase }, { on := 8, ground := Ground.phase }], guard := none }) (v := ?vq9) rfl (by kernel_rfl) (by kernel_rfl) (by kernel_rfl) (fun _ _ _ h => h) (Or.inl ⟨by rfl, ?hyq9⟩) hHeld ?_
  case hyq9 => (intro w hSw; (try dsimp only at hSw); go_simp; (try with_reducible rfl))
  try simp only [Act.put, List.setIfInBounds_toArray, List.set_cons_zero, List.set_cons_succ]
  refine wpAnyH_done (by kernel_rfl) ?_ _
  clear hHeld h1 h2 h3 h4
  go_wp2_with fail
  refine (HI.out _).mono ?_
  rintro e V3 ⟨rfl, rfl⟩
  clear HI
  go_wp2_with fail
  have HC4 := Lib.hid (((HC3.out.setP 0).setJ (j + 1)).setL 3)
  clear HC3 a0 a1 a2 a3 a4 a5 a6 a7 a8 af
  obtain ⟨a0, a1, a2, a3, a4, a5, a6, a7, a8, af⟩ := HC4.out.cells
  dsimp only at a0 a1 a2 a3 a4 a5 a6 a7 a8
  obtain ⟨_, ⟨h1, h2, h3, h4⟩, _⟩ := HC4.out.hand.cells
  refine wp_region_held_drew (S := (fun w' => w'.cell? ⟨X, 0, none⟩ = some (.int .i64 C.a) ∧ w'.cell? ⟨X, 1, none⟩ = some (.int .i64 C.b) ∧ w'.cell? ⟨X, 2, none⟩ = some (.int .i64 C.c) ∧ w'.cell? ⟨X, 3, none⟩ = some (.int .i64 C.d) ∧ w'.cell? ⟨w.heap.size, 1, none⟩ = some (.int .i64 (j + 1)))) (by kernel_rfl) ?_ (fun hHeld => ?_)
  · exact ⟨h1, h2, h3, h4, a1⟩
  refine wpAnyH_take (i := 0) (oi := { dst := some 47, op := Op.fieldAddr 28 (Operand.tmp 3) 1, type := 0, pos := "ref.go:30", after := #[], guard := none }) (v := ?vz0) rfl (by kernel_rfl) (by kernel_rfl) (by kernel_rfl) (fun _ _ _ h => h) (Or.inl ⟨by rfl, ?hyz0⟩) hHeld ?_
  case hyz0 => (intro w hSw; (try dsimp only at hSw); go_simp; (try with_reducible rfl))
  try simp only [Act.put, List.setIfInBounds_toArray, List.set_cons_zero, List.set_cons_succ]
  refine wpAnyH_take (i := 1) (oi := { dst := some 48, op := Op.load 3 (Operand.tmp 47), type := 3, pos := "ref.go:30", after := #[{ on := 0, ground := Ground.data }], guard := none }) (v := ?vz1) rfl (by kernel_rfl) (by kernel_rfl) (by kernel_rfl) (fun _ _ _ h => h) (Or.inl ⟨by rfl, ?hyz1⟩) hHeld ?_
  case hyz1 => (intro w hSw; (try dsimp only at hSw); go_simp; (try with_reducible rfl))
  try simp only [Act.put, List.setIfInBounds_toArray, List.set_cons_zero, List.set_cons_succ]
  refine wpAnyH_take (i := 2) (oi := { dst := some 49, op := Op.move (Operand.tmp 0), type := 33, pos := "ref.go:30", after := #[], guard := none }) (v := ?vz2) rfl (by kernel_rfl) (by kernel_rfl) (by kernel_rfl) (fun _ _ _ h => h) (Or.inl ⟨by rfl, ?hyz2⟩) hHeld ?_
  case hyz2 => (intro w hSw; (try dsimp only at hSw); go_simp; (try with_reducible rfl))
  try simp only [Act.put, List.setIfInBounds_toArray, List.set_cons_zero, List.set_cons_succ]
  refine wpAnyH_take (i := 3) (oi := { dst := some 50, op := Op.nilCheck (Operand.tmp 49), type := 0, pos := "ref.go:30", after := #[{ on := 2, ground := Ground.data }], guard := none }) (v := ?vz3) rfl (by kernel_rfl) (by kernel_rfl) (by kernel_rfl) (fun _ _ _ h => h) (Or.inl ⟨by rfl, ?hyz3⟩) hHeld ?_
  case hyz3 => (intro w hSw; (try dsimp only at hSw); go_simp; (try with_reducible rfl))
  try simp only [Act.put, List.setIfInBounds_toArray, List.set_cons_zero, List.set_cons_succ]
  refine wpAnyH_take (i := 4) (oi := { dst := some 51, op := Op.fieldAddr 59 (Operand.tmp 50) 0, type := 0, pos := "ref.go:30", after := #[{ on := 3, ground := Ground.data }], guard := none }) (v := ?vz4) rfl (by kernel_rfl) (by kernel_rfl) (by kernel_rfl) (fun _ _ _ h => h) (Or.inl ⟨by rfl, ?hyz4⟩) hHeld ?_
  case hyz4 => (intro w hSw; (try dsimp only at hSw); go_simp; (try with_reducible rfl))
  try simp only [Act.put, List.setIfInBounds_toArray, List.set_cons_zero, List.set_cons_succ]
  refine wpAnyH_take (i := 5) (oi := { dst := some 52, op := Op.load 23 (Operand.tmp 51), type := 23, pos := "ref.go:30", after := #[{ on := 4, ground := Ground.data }], guard := none }) (v := ?vz5) rfl (by kernel_rfl) (by kernel_rfl) (by kernel_rfl) (fun _ _ _ h => h) (Or.inl ⟨by rfl, ?hyz5⟩) hHeld ?_
  case hyz5 => (intro w hSw; (try dsimp only at hSw); go_simp; (try with_reducible rfl))
  try simp only [Act.put, List.setIfInBounds_toArray, List.set_cons_zero, List.set_cons_succ]
  refine wpAnyH_ready (rs := [6]) (by kernel_rfl) (by simp) ?_
  refine AllReadyH.cons (o := { dst := some 53, op := Op.call { callee := Callee.value (Operand.func 38), args := #[Operand.tmp 52], argTypes := #[23] }, type := 3, pos := "ref.go:30", after := #[{ on := 5, ground := Ground.data }], guard := none }) rfl (fun K hK => ?_) AllReadyH.nil
  go_simp
  have HC5 := Lib.hid HC4.out.drew
  clear HC4
  refine (HRo.out _).mono ?_
  rintro e V4 ⟨rfl, hb⟩
  have HC6 := Lib.hid (HC5.out.below hb)
  clear HC5
  clear hb
  clear hHeld HRo h1 h2 h3 h4 a0 a1 a2 a3 a4 a5 a6 a7 a8 af
  obtain ⟨a0, a1, a2, a3, a4, a5, a6, a7, a8, af⟩ := HC6.out.cells
  dsimp only at a0 a1 a2 a3 a4 a5 a6 a7 a8
  obtain ⟨_, ⟨h1, h2, h3, h4⟩, _⟩ := HC6.out.hand.cells
  refine hK.out _ _ ?_ (fun hHeld => ?_)
  · exact ⟨h1, h2, h3, h4, a1⟩
  clear hK K
  try simp only [Act.put, List.setIfInBounds_toArray, List.set_cons_zero, List.set_cons_succ]
  refine wpAnyH_take (i := 7) (oi := { dst := some 54, op := Op.binOp BinOp.lss 3 (Operand.tmp 48) (Operand.tmp 53) 3, type := 4, pos := "ref.go:30", after := #[{ on := 1, ground := Ground.data }, { on := 6, ground := Ground.data }], guard := none }) (v := ?vz7) rfl (by kernel_rfl) (by kernel_rfl) (by kernel_rfl) (fun _ _ _ h => h) (Or.inl ⟨by rfl, ?hyz7⟩) hHeld ?_
  case hyz7 => (intro w hSw; (try dsimp only at hSw); go_simp; (try with_reducible rfl))
  try simp only [Act.put, List.setIfInBounds_toArray, List.set_cons_zero, List.set_cons_succ]
  refine wpAnyH_done (by kernel_rfl) ?_ _
  clear hHeld h1 h2 h3 h4 a0 a1 a2 a3 a4 a5 a6 a7 a8 af
  have HCe := Lib.hid HC6.out
  obtain ⟨d0, d1, d2, d3, d4, d5, d6, d7, d8, df⟩ := HCe.out.cells
  dsimp only at d0 d1 d2 d3 d4 d5 d6 d7 d8
  obtain ⟨c0, c1, c2, c3, c4, c5, c6, c7, c8, cf⟩ := HCe.out.cellsY
  obtain ⟨s0, s1, s2, s3, s4, s5, s6, s7, s8, sf⟩ := (HCe.out.last ⟨3, (j + 1), c, m, a, 0, fd, tl, cy⟩).cells
  dsimp only at s0 s1 s2 s3 s4 s5 s6 s7 s8
  clear HC6 
  go_wp2_with fail
  refine bodyPost_ret (v := .tuple #[(colV 3 (j + 1) c m a 0 fd tl cy), .bool true]) (by simp [results, Tryz.f27, go_sem, s0, s1, s2, s3, s4, s5, s6, s7, s8]) rfl ?_
  exact ⟨rfl, HCe.out.fin ⟨3, (j + 1), c, m, a, 0, fd, tl, cy⟩⟩
end Go.Proofs.YthdcapkchjamoaaGreatDoor
