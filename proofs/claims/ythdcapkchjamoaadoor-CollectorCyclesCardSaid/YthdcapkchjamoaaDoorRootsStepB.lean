/- A step of package roots: line 1, no cell. -/
import Derived.Test.YthdcapkchjamoaaDoorM7
import Derived.Test.YthdcapkchjamoaaDoorPlaceAt
namespace Go.Proofs.YthdcapkchjamoaaDoor
open Go Go.RowKit
set_option maxRecDepth 100000
attribute [local go_sem ↓] Go.wp_at_zero Go.wp_at_succ

set_option maxHeartbeats 3200000 in
theorem roStep_no {w : World} {H A G : Nat} {C : Cf} {s : Dy} (hH : HAt w H A G C s) (hu : s.U) (hS : SpansAt w) (hr : Right C.a C.b C.c C.d) (j c m a p : Int) (fd : Bool) (tl cy : Int) (hn : 0 < C.n) (hj : -1000000000000 ≤ j ∧ j ≤ 1000000000000) (u : Nat) (hu6 : u < 18446744073709551616) (hT : z5 C.n 1 (rootP C.a C.b C.c C.d j) (s.f (rootP C.a C.b C.c C.d j).toNat) = (u : Int)) (hc : ¬ isC u) :
    Calls Tryd.prog 35 #[.pointer (some ⟨H, 0, none⟩), (colV 1 j c m a p fd tl cy)] w (HP w H A G C (s.act C 1 (rootP C.a C.b C.c C.d j) 0 0) (.tuple #[(nextRoot C ⟨1, j, c, m, a, p, fd, tl, cy⟩).v, .bool true])) := by
  have HC0 := Lib.hid (ColF.start hH ⟨1, j, c, m, a, p, fd, tl, cy⟩)
  have HSP : Hid (∀ W s' x', ColF w W H A G C s' x' → SpansAt W) := Lib.hid (fun W s' x' h => spans_sav hn hS hH h.sav)
  have HRt : Hid (∀ W, SpansAt W → Calls Tryd.prog 50 #[(.agg #[.int .i64 C.a, .int .i64 C.b, .int .i64 C.c, .int .i64 C.d]), .int .i64 j] W fun e w' => e = .returned (.int .i64 (rootP C.a C.b C.c C.d j)) ∧ Below W.heap.size W w') := Lib.hid (fun W hW => Root_c C.a C.b C.c C.d j W hW)
  have HD : Hid (∀ W, HAt W H A G C s → Calls Tryd.prog 49 #[.pointer (some ⟨H, 0, none⟩), .int .i64 (rootP C.a C.b C.c C.d j)] W (HP W H A G C (s.act C 1 (rootP C.a C.b C.c C.d j) 0 0) (.int .u64 (z5 C.n 1 (rootP C.a C.b C.c C.d j) (s.f ((rootP C.a C.b C.c C.d j)).toNat))))) := Lib.hid (fun W hW => hLoad_c (w := W) hW hu (rootP C.a C.b C.c C.d j))
  have HI : Hid (∀ W, Calls Tryd.prog 51 #[.int .u64 (u : Int)] W fun e w' => e = .returned (.tuple #[.int .i64 (cellK u), .bool false]) ∧ W = w') := Lib.hid (fun W => by have := isCell_c u hu6 W; rw [decide_eq_false hc] at this; exact this)
  generalize cellK u = k at *
  obtain ⟨y, hy⟩ : ∃ y, nextRoot C ⟨1, j, c, m, a, p, fd, tl, cy⟩ = y := ⟨_, rfl⟩
  have HNx : Hid (∀ W, Calls Tryd.prog 54 #[(colV 1 j c m a (u : Int) fd tl cy), .int .i64 (1 + C.d + C.b * C.c)] W fun e w' => e = .returned y.v ∧ Below W.heap.size W w') := Lib.hid (fun W => by rw [← hy]; exact next_c C hr 1 j c m a (u : Int) fd tl cy hj W)
  have HRo : Hid (∀ W, SpansAt W → Calls Tryd.prog 55 #[(.agg #[.int .i64 C.a, .int .i64 C.b, .int .i64 C.c, .int .i64 C.d])] W fun e w' => e = .returned (.int .i64 (1 + C.d + C.b * C.c)) ∧ Below W.heap.size W w') := Lib.hid (fun W hW => roots_right C.a C.b C.c C.d hr W hW)
  generalize (1 + C.d + C.b * C.c) = nn at *
  rw [hy]
  clear hy
  generalize (s.act C 1 (rootP C.a C.b C.c C.d j) 0 0) = s' at *
  generalize (z5 C.n 1 (rootP C.a C.b C.c C.d j) (s.f ((rootP C.a C.b C.c C.d j)).toNat)) = T at *
  generalize (rootP C.a C.b C.c C.d j) = P at *
  subst hT
  clear hH hu hS hr hc hu6 hj hn
  obtain ⟨a0, a1, a2, a3, a4, a5, a6, a7, a8, af⟩ := HC0.out.cells
  dsimp only at a0 a1 a2 a3 a4 a5 a6 a7 a8
  obtain ⟨_, ⟨h1, h2, h3, h4⟩, _⟩ := HC0.out.hand.cells
  go_enter Tryd.func35, Tryd.ntmps35
  go_wp2_with fail
  refine wp_region_held_drew (S := (fun w' => w'.cell? ⟨H, 1, none⟩ = some (.int .i64 C.a) ∧ w'.cell? ⟨H, 2, none⟩ = some (.int .i64 C.b) ∧ w'.cell? ⟨H, 3, none⟩ = some (.int .i64 C.c) ∧ w'.cell? ⟨H, 4, none⟩ = some (.int .i64 C.d) ∧ w'.cell? ⟨w.heap.size, 1, none⟩ = some (.int .i64 j))) (by kernel_rfl) ?_ (fun hHeld => ?_)
  · exact ⟨h1, h2, h3, h4, a1⟩
  refine wpAnyH_take (i := 0) (oi := { dst := some 14, op := Op.move (Operand.tmp 0), type := 26, pos := "roots.go:40", after := #[], guard := none }) (v := ?vq0) rfl (by kernel_rfl) (by kernel_rfl) (by kernel_rfl) (fun _ _ _ h => h) (Or.inl ⟨by rfl, ?hyq0⟩) hHeld ?_
  case hyq0 => (intro w hSw; (try dsimp only at hSw); go_simp; (try with_reducible rfl))
  try simp only [Act.put, List.setIfInBounds_toArray, List.set_cons_zero, List.set_cons_succ]
  refine wpAnyH_take (i := 1) (oi := { dst := some 15, op := Op.move (Operand.tmp 0), type := 26, pos := "roots.go:40", after := #[], guard := none }) (v := ?vq1) rfl (by kernel_rfl) (by kernel_rfl) (by kernel_rfl) (fun _ _ _ h => h) (Or.inl ⟨by rfl, ?hyq1⟩) hHeld ?_
  case hyq1 => (intro w hSw; (try dsimp only at hSw); go_simp; (try with_reducible rfl))
  try simp only [Act.put, List.setIfInBounds_toArray, List.set_cons_zero, List.set_cons_succ]
  refine wpAnyH_take (i := 2) (oi := { dst := some 16, op := Op.nilCheck (Operand.tmp 15), type := 0, pos := "roots.go:40", after := #[{ on := 1, ground := Ground.data }], guard := none }) (v := ?vq2) rfl (by kernel_rfl) (by kernel_rfl) (by kernel_rfl) (fun _ _ _ h => h) (Or.inl ⟨by rfl, ?hyq2⟩) hHeld ?_
  case hyq2 => (intro w hSw; (try dsimp only at hSw); go_simp; (try with_reducible rfl))
  try simp only [Act.put, List.setIfInBounds_toArray, List.set_cons_zero, List.set_cons_succ]
  refine wpAnyH_take (i := 3) (oi := { dst := some 17, op := Op.fieldAddr 51 (Operand.tmp 16) 1, type := 0, pos := "roots.go:40", after := #[{ on := 2, ground := Ground.data }], guard := none }) (v := ?vq3) rfl (by kernel_rfl) (by kernel_rfl) (by kernel_rfl) (fun _ _ _ h => h) (Or.inl ⟨by rfl, ?hyq3⟩) hHeld ?_
  case hyq3 => (intro w hSw; (try dsimp only at hSw); go_simp; (try with_reducible rfl))
  try simp only [Act.put, List.setIfInBounds_toArray, List.set_cons_zero, List.set_cons_succ]
  refine wpAnyH_take (i := 4) (oi := { dst := some 18, op := Op.load 47 (Operand.tmp 17), type := 47, pos := "roots.go:40", after := #[{ on := 3, ground := Ground.data }], guard := none }) (v := ?vq4) rfl (by kernel_rfl) (by kernel_rfl) (by kernel_rfl) (fun _ _ _ h => h) (Or.inl ⟨by rfl, ?hyq4⟩) hHeld ?_
  case hyq4 => (intro w hSw; (try dsimp only at hSw); go_simp; (try with_reducible rfl))
  try simp only [Act.put, List.setIfInBounds_toArray, List.set_cons_zero, List.set_cons_succ]
  refine wpAnyH_take (i := 5) (oi := { dst := some 19, op := Op.fieldAddr 37 (Operand.tmp 3) 1, type := 0, pos := "roots.go:40", after := #[], guard := none }) (v := ?vq5) rfl (by kernel_rfl) (by kernel_rfl) (by kernel_rfl) (fun _ _ _ h => h) (Or.inl ⟨by rfl, ?hyq5⟩) hHeld ?_
  case hyq5 => (intro w hSw; (try dsimp only at hSw); go_simp; (try with_reducible rfl))
  try simp only [Act.put, List.setIfInBounds_toArray, List.set_cons_zero, List.set_cons_succ]
  refine wpAnyH_take (i := 6) (oi := { dst := some 20, op := Op.load 3 (Operand.tmp 19), type := 3, pos := "roots.go:40", after := #[{ on := 5, ground := Ground.data }], guard := none }) (v := ?vq6) rfl (by kernel_rfl) (by kernel_rfl) (by kernel_rfl) (fun _ _ _ h => h) (Or.inl ⟨by rfl, ?hyq6⟩) hHeld ?_
  case hyq6 => (intro w hSw; (try dsimp only at hSw); go_simp; (try with_reducible rfl))
  try simp only [Act.put, List.setIfInBounds_toArray, List.set_cons_zero, List.set_cons_succ]
  refine wpAnyH_ready (rs := [7]) (by kernel_rfl) (by simp) ?_
  refine AllReadyH.cons (o := { dst := some 21, op := Op.call { callee := Callee.value (Operand.func 50), args := #[Operand.tmp 18, Operand.tmp 20], argTypes := #[47, 3] }, type := 3, pos := "roots.go:40", after := #[{ on := 4, ground := Ground.data }, { on := 6, ground := Ground.data }], guard := none }) rfl (fun K hK => ?_) AllReadyH.nil
  go_simp
  have HC1 := Lib.hid HC0.out.drew
  clear HC0
  refine (HRt.out _ (HSP.out _ _ _ HC1.out)).mono ?_
  rintro e V1 ⟨rfl, hb⟩
  have HC2 := Lib.hid (HC1.out.below hb)
  clear HC1
  clear hb
  clear hHeld HRt h1 h2 h3 h4 a0 a1 a2 a3 a4 a5 a6 a7 a8 af
  obtain ⟨a0, a1, a2, a3, a4, a5, a6, a7, a8, af⟩ := HC2.out.cells
  dsimp only at a0 a1 a2 a3 a4 a5 a6 a7 a8
  obtain ⟨_, ⟨h1, h2, h3, h4⟩, _⟩ := HC2.out.hand.cells
  refine hK.out _ _ ?_ (fun hHeld => ?_)
  · exact ⟨h1, h2, h3, h4, a1⟩
  clear hK K
  try simp only [Act.put, List.setIfInBounds_toArray, List.set_cons_zero, List.set_cons_succ]
  refine wpAnyH_ready (rs := [8]) (by kernel_rfl) (by simp) ?_
  refine AllReadyH.cons (o := { dst := some 22, op := Op.call { callee := Callee.value (Operand.func 49), args := #[Operand.tmp 14, Operand.tmp 21], argTypes := #[26, 3] }, type := 35, pos := "roots.go:40", after := #[{ on := 0, ground := Ground.data }, { on := 7, ground := Ground.data }, { on := 7, ground := Ground.chain }], guard := none }) rfl (fun K hK => ?_) AllReadyH.nil
  go_simp
  refine (HD.out _ HC2.out.hand).mono ?_
  rintro e V2 ⟨rfl, hF, hs⟩
  have HC3 := Lib.hid (HC2.out.handed hF hs)
  clear HC2 hF hs
  clear hHeld HD h1 h2 h3 h4 a0 a1 a2 a3 a4 a5 a6 a7 a8 af
  obtain ⟨a0, a1, a2, a3, a4, a5, a6, a7, a8, af⟩ := HC3.out.cells
  dsimp only at a0 a1 a2 a3 a4 a5 a6 a7 a8
  obtain ⟨_, ⟨h1, h2, h3, h4⟩, _⟩ := HC3.out.hand.cells
  refine hK.out _ _ ?_ (fun hHeld => ?_)
  · exact ⟨h1, h2, h3, h4, a1⟩
  clear hK K
  try simp only [Act.put, List.setIfInBounds_toArray, List.set_cons_zero, List.set_cons_succ]
  refine wpAnyH_take (i := 9) (oi := { dst := some 23, op := Op.fieldAddr 37 (Operand.tmp 3) 5, type := 0, pos := "roots.go:40", after := #[{ on := 0, ground := Ground.phase }, { on := 1, ground := Ground.phase }, { on := 2, ground := Ground.phase }, { on := 3, ground := Ground.phase }, { on := 4, ground := Ground.phase }, { on := 5, ground := Ground.phase }, { on := 6, ground := Ground.phase }, { on := 7, ground := Ground.phase }, { on := 8, ground := Ground.phase }], guard := none }) (v := ?vq9) rfl (by kernel_rfl) (by kernel_rfl) (by kernel_rfl) (fun _ _ _ h => h) (Or.inl ⟨by rfl, ?hyq9⟩) hHeld ?_
  case hyq9 => (intro w hSw; (try dsimp only at hSw); go_simp; (try with_reducible rfl))
  try simp only [Act.put, List.setIfInBounds_toArray, List.set_cons_zero, List.set_cons_succ]
  refine wpAnyH_ready (rs := [10]) (by kernel_rfl) (by simp) ?_
  refine AllReadyH.cons (o := { dst := none, op := Op.store 35 (Operand.tmp 23) (Operand.tmp 22), type := 0, pos := "roots.go:40", after := #[{ on := 9, ground := Ground.data }, { on := 8, ground := Ground.data }, { on := 8, ground := Ground.chain }, { on := 0, ground := Ground.phase }, { on := 1, ground := Ground.phase }, { on := 2, ground := Ground.phase }, { on := 3, ground := Ground.phase }, { on := 4, ground := Ground.phase }, { on := 5, ground := Ground.phase }, { on := 6, ground := Ground.phase }, { on := 7, ground := Ground.phase }, { on := 8, ground := Ground.phase }], guard := none }) rfl (fun K hK => ?_) AllReadyH.nil
  go_simp
  have HC4 := Lib.hid (HC3.out.setP (u : Int))
  clear hHeld HC3 h1 h2 h3 h4 a0 a1 a2 a3 a4 a5 a6 a7 a8 af
  obtain ⟨a0, a1, a2, a3, a4, a5, a6, a7, a8, af⟩ := HC4.out.cells
  dsimp only at a0 a1 a2 a3 a4 a5 a6 a7 a8
  obtain ⟨_, ⟨h1, h2, h3, h4⟩, _⟩ := HC4.out.hand.cells
  refine hK.out _ _ ?_ (fun hHeld => ?_)
  · exact ⟨h1, h2, h3, h4, a1⟩
  clear hK K
  try simp only [Act.put, List.setIfInBounds_toArray, List.set_cons_zero, List.set_cons_succ]
  refine wpAnyH_done (by kernel_rfl) ?_ _
  clear hHeld h1 h2 h3 h4 a0 a1 a2 a3 a4 a5 a6 a7 a8 af
  obtain ⟨a0, a1, a2, a3, a4, a5, a6, a7, a8, af⟩ := HC4.out.cells
  dsimp only at a0 a1 a2 a3 a4 a5 a6 a7 a8
  go_wp2_with fail
  refine (HI.out _).mono ?_
  rintro e V9 ⟨rfl, rfl⟩
  clear HI
  obtain ⟨_, ⟨h1, h2, h3, h4⟩, _⟩ := HC4.out.hand.cells
  go_wp2_with fail
  skip
  refine wp_region_held_drew (S := (fun w' => w'.cell? ⟨H, 1, none⟩ = some (.int .i64 C.a) ∧ w'.cell? ⟨H, 2, none⟩ = some (.int .i64 C.b) ∧ w'.cell? ⟨H, 3, none⟩ = some (.int .i64 C.c) ∧ w'.cell? ⟨H, 4, none⟩ = some (.int .i64 C.d))) (by kernel_rfl) ?_ (fun hHeld => ?_)
  · exact ⟨h1, h2, h3, h4⟩
  refine wpAnyH_take (i := 1) (oi := { dst := some 53, op := Op.move (Operand.tmp 0), type := 26, pos := "roots.go:51", after := #[], guard := none }) (v := ?vn1) rfl (by kernel_rfl) (by kernel_rfl) (by kernel_rfl) (fun _ _ _ h => h) (Or.inl ⟨by rfl, ?hyn1⟩) hHeld ?_
  case hyn1 => (intro w hSw; (try dsimp only at hSw); go_simp; (try with_reducible rfl))
  try simp only [Act.put, List.setIfInBounds_toArray, List.set_cons_zero, List.set_cons_succ]
  refine wpAnyH_take (i := 2) (oi := { dst := some 54, op := Op.nilCheck (Operand.tmp 53), type := 0, pos := "roots.go:51", after := #[{ on := 1, ground := Ground.data }], guard := none }) (v := ?vn2) rfl (by kernel_rfl) (by kernel_rfl) (by kernel_rfl) (fun _ _ _ h => h) (Or.inl ⟨by rfl, ?hyn2⟩) hHeld ?_
  case hyn2 => (intro w hSw; (try dsimp only at hSw); go_simp; (try with_reducible rfl))
  try simp only [Act.put, List.setIfInBounds_toArray, List.set_cons_zero, List.set_cons_succ]
  refine wpAnyH_take (i := 3) (oi := { dst := some 55, op := Op.fieldAddr 51 (Operand.tmp 54) 1, type := 0, pos := "roots.go:51", after := #[{ on := 2, ground := Ground.data }], guard := none }) (v := ?vn3) rfl (by kernel_rfl) (by kernel_rfl) (by kernel_rfl) (fun _ _ _ h => h) (Or.inl ⟨by rfl, ?hyn3⟩) hHeld ?_
  case hyn3 => (intro w hSw; (try dsimp only at hSw); go_simp; (try with_reducible rfl))
  try simp only [Act.put, List.setIfInBounds_toArray, List.set_cons_zero, List.set_cons_succ]
  refine wpAnyH_take (i := 4) (oi := { dst := some 56, op := Op.fieldAddr 47 (Operand.tmp 55) 0, type := 0, pos := "roots.go:51", after := #[{ on := 3, ground := Ground.data }], guard := none }) (v := ?vn4) rfl (by kernel_rfl) (by kernel_rfl) (by kernel_rfl) (fun _ _ _ h => h) (Or.inl ⟨by rfl, ?hyn4⟩) hHeld ?_
  case hyn4 => (intro w hSw; (try dsimp only at hSw); go_simp; (try with_reducible rfl))
  try simp only [Act.put, List.setIfInBounds_toArray, List.set_cons_zero, List.set_cons_succ]
  refine wpAnyH_take (i := 5) (oi := { dst := some 57, op := Op.load 23 (Operand.tmp 56), type := 23, pos := "roots.go:51", after := #[{ on := 4, ground := Ground.data }], guard := none }) (v := ?vn5) rfl (by kernel_rfl) (by kernel_rfl) (by kernel_rfl) (fun _ _ _ h => h) (Or.inl ⟨by rfl, ?hyn5⟩) hHeld ?_
  case hyn5 => (intro w hSw; (try dsimp only at hSw); go_simp; (try with_reducible rfl))
  try simp only [Act.put, List.setIfInBounds_toArray, List.set_cons_zero, List.set_cons_succ]
  refine wpAnyH_ready (rs := [0, 6]) (by kernel_rfl) (by simp) ?_
  refine AllReadyH.cons (o := { dst := some 52, op := Op.load 37 (Operand.tmp 3), type := 37, pos := "roots.go:51", after := #[], guard := none }) rfl (fun K hK => ?_) ?_
  · go_simp
    skip
    refine hK.out _ _ ?_ (fun hHeld => ?_)
    · exact ⟨h1, h2, h3, h4⟩
    clear hK K
    try simp only [Act.put, List.setIfInBounds_toArray, List.set_cons_zero, List.set_cons_succ]
    refine wpAnyH_ready (rs := [6]) (by kernel_rfl) (by simp) ?_
    refine AllReadyH.cons (o := { dst := some 58, op := Op.call { callee := Callee.value (Operand.func 55), args := #[Operand.tmp 57], argTypes := #[23] }, type := 3, pos := "roots.go:51", after := #[{ on := 5, ground := Ground.data }], guard := none }) rfl (fun K hK => ?_) AllReadyH.nil
    go_simp
    have HC5 := Lib.hid HC4.out.drew
    clear HC4
    refine (HRo.out _ (HSP.out _ _ _ HC5.out)).mono ?_
    rintro e V11 ⟨rfl, hb⟩
    have HC6 := Lib.hid (HC5.out.below hb)
    clear HC5
    clear hb
    clear hHeld HRo h1 h2 h3 h4 a0 a1 a2 a3 a4 a5 a6 a7 a8 af
    obtain ⟨a0, a1, a2, a3, a4, a5, a6, a7, a8, af⟩ := HC6.out.cells
    dsimp only at a0 a1 a2 a3 a4 a5 a6 a7 a8
    obtain ⟨_, ⟨h1, h2, h3, h4⟩, _⟩ := HC6.out.hand.cells
    refine hK.out _ _ ?_ (fun hHeld => ?_)
    · exact ⟨h1, h2, h3, h4⟩
    clear hK K
    try simp only [Act.put, List.setIfInBounds_toArray, List.set_cons_zero, List.set_cons_succ]
    refine wpAnyH_ready (rs := [7]) (by kernel_rfl) (by simp) ?_
    refine AllReadyH.cons (o := { dst := some 59, op := Op.call { callee := Callee.value (Operand.func 54), args := #[Operand.tmp 52, Operand.tmp 58], argTypes := #[37, 3] }, type := 37, pos := "roots.go:51", after := #[{ on := 0, ground := Ground.data }, { on := 6, ground := Ground.data }, { on := 6, ground := Ground.chain }], guard := none }) rfl (fun K hK => ?_) AllReadyH.nil
    go_simp
    refine (HNx.out _).mono ?_
    rintro e V12 ⟨rfl, hb⟩
    have HC7 := Lib.hid (HC6.out.below hb)
    clear HC6
    clear hb
    clear hHeld HNx h1 h2 h3 h4 a0 a1 a2 a3 a4 a5 a6 a7 a8 af
    obtain ⟨a0, a1, a2, a3, a4, a5, a6, a7, a8, af⟩ := HC7.out.cells
    dsimp only at a0 a1 a2 a3 a4 a5 a6 a7 a8
    obtain ⟨_, ⟨h1, h2, h3, h4⟩, _⟩ := HC7.out.hand.cells
    refine hK.out _ _ ?_ (fun hHeld => ?_)
    · exact ⟨h1, h2, h3, h4⟩
    clear hK K
    try simp only [Act.put, List.setIfInBounds_toArray, List.set_cons_zero, List.set_cons_succ]
    refine wpAnyH_ready (rs := [8]) (by kernel_rfl) (by simp) ?_
    refine AllReadyH.cons (o := { dst := none, op := Op.store 37 (Operand.tmp 3) (Operand.tmp 59), type := 0, pos := "roots.go:51", after := #[{ on := 7, ground := Ground.data }, { on := 7, ground := Ground.chain }, { on := 0, ground := Ground.phase }, { on := 1, ground := Ground.phase }, { on := 2, ground := Ground.phase }, { on := 3, ground := Ground.phase }, { on := 4, ground := Ground.phase }, { on := 5, ground := Ground.phase }, { on := 6, ground := Ground.phase }, { on := 7, ground := Ground.phase }], guard := none }) rfl (fun K hK => ?_) AllReadyH.nil
    go_simp
    have HC8 := Lib.hid (HC7.out.put ⟨y.l, y.j, y.c, y.m, y.a, y.p, y.fd, y.tl, y.cy⟩)
    clear hHeld HC7 h1 h2 h3 h4 a0 a1 a2 a3 a4 a5 a6 a7 a8 af
    obtain ⟨_, ⟨h1, h2, h3, h4⟩, _⟩ := HC8.out.hand.cells
    refine hK.out _ _ ?_ (fun hHeld => ?_)
    · exact ⟨h1, h2, h3, h4⟩
    clear hK K
    try simp only [Act.put, List.setIfInBounds_toArray, List.set_cons_zero, List.set_cons_succ]
    refine wpAnyH_done (by kernel_rfl) ?_ _
    clear hHeld h1 h2 h3 h4
    have HCe := Lib.hid HC8.out
    obtain ⟨d0, d1, d2, d3, d4, d5, d6, d7, d8, df⟩ := HCe.out.cells
    dsimp only at d0 d1 d2 d3 d4 d5 d6 d7 d8
    obtain ⟨c0, c1, c2, c3, c4, c5, c6, c7, c8, cf⟩ := HCe.out.cellsY
    obtain ⟨s0, s1, s2, s3, s4, s5, s6, s7, s8, sf⟩ := (HCe.out.last ⟨y.l, y.j, y.c, y.m, y.a, y.p, y.fd, y.tl, y.cy⟩).cells
    dsimp only at s0 s1 s2 s3 s4 s5 s6 s7 s8
    clear HC8 
    go_wp2_with fail
    refine bodyPost_ret (v := .tuple #[(colV y.l y.j y.c y.m y.a y.p y.fd y.tl y.cy), .bool true]) (by simp [results, Tryd.f35, go_sem, s0, s1, s2, s3, s4, s5, s6, s7, s8]) rfl ?_
    exact ⟨rfl, HCe.out.fin ⟨y.l, y.j, y.c, y.m, y.a, y.p, y.fd, y.tl, y.cy⟩⟩
  refine AllReadyH.cons (o := { dst := some 58, op := Op.call { callee := Callee.value (Operand.func 55), args := #[Operand.tmp 57], argTypes := #[23] }, type := 3, pos := "roots.go:51", after := #[{ on := 5, ground := Ground.data }], guard := none }) rfl (fun K hK => ?_) AllReadyH.nil
  go_simp
  have HC5 := Lib.hid HC4.out.drew
  clear HC4
  refine (HRo.out _ (HSP.out _ _ _ HC5.out)).mono ?_
  rintro e V11 ⟨rfl, hb⟩
  have HC6 := Lib.hid (HC5.out.below hb)
  clear HC5
  clear hb
  clear hHeld HRo h1 h2 h3 h4 a0 a1 a2 a3 a4 a5 a6 a7 a8 af
  obtain ⟨a0, a1, a2, a3, a4, a5, a6, a7, a8, af⟩ := HC6.out.cells
  dsimp only at a0 a1 a2 a3 a4 a5 a6 a7 a8
  obtain ⟨_, ⟨h1, h2, h3, h4⟩, _⟩ := HC6.out.hand.cells
  refine hK.out _ _ ?_ (fun hHeld => ?_)
  · exact ⟨h1, h2, h3, h4⟩
  clear hK K
  try simp only [Act.put, List.setIfInBounds_toArray, List.set_cons_zero, List.set_cons_succ]
  refine wpAnyH_ready (rs := [0]) (by kernel_rfl) (by simp) ?_
  refine AllReadyH.cons (o := { dst := some 52, op := Op.load 37 (Operand.tmp 3), type := 37, pos := "roots.go:51", after := #[], guard := none }) rfl (fun K hK => ?_) AllReadyH.nil
  go_simp
  skip
  refine hK.out _ _ ?_ (fun hHeld => ?_)
  · exact ⟨h1, h2, h3, h4⟩
  clear hK K
  try simp only [Act.put, List.setIfInBounds_toArray, List.set_cons_zero, List.set_cons_succ]
  refine wpAnyH_ready (rs := [7]) (by kernel_rfl) (by simp) ?_
  refine AllReadyH.cons (o := { dst := some 59, op := Op.call { callee := Callee.value (Operand.func 54), args := #[Operand.tmp 52, Operand.tmp 58], argTypes := #[37, 3] }, type := 37, pos := "roots.go:51", after := #[{ on := 0, ground := Ground.data }, { on := 6, ground := Ground.data }, { on := 6, ground := Ground.chain }], guard := none }) rfl (fun K hK => ?_) AllReadyH.nil
  go_simp
  refine (HNx.out _).mono ?_
  rintro e V12 ⟨rfl, hb⟩
  have HC7 := Lib.hid (HC6.out.below hb)
  clear HC6
  clear hb
  clear hHeld HNx h1 h2 h3 h4 a0 a1 a2 a3 a4 a5 a6 a7 a8 af
  obtain ⟨a0, a1, a2, a3, a4, a5, a6, a7, a8, af⟩ := HC7.out.cells
  dsimp only at a0 a1 a2 a3 a4 a5 a6 a7 a8
  obtain ⟨_, ⟨h1, h2, h3, h4⟩, _⟩ := HC7.out.hand.cells
  refine hK.out _ _ ?_ (fun hHeld => ?_)
  · exact ⟨h1, h2, h3, h4⟩
  clear hK K
  try simp only [Act.put, List.setIfInBounds_toArray, List.set_cons_zero, List.set_cons_succ]
  refine wpAnyH_ready (rs := [8]) (by kernel_rfl) (by simp) ?_
  refine AllReadyH.cons (o := { dst := none, op := Op.store 37 (Operand.tmp 3) (Operand.tmp 59), type := 0, pos := "roots.go:51", after := #[{ on := 7, ground := Ground.data }, { on := 7, ground := Ground.chain }, { on := 0, ground := Ground.phase }, { on := 1, ground := Ground.phase }, { on := 2, ground := Ground.phase }, { on := 3, ground := Ground.phase }, { on := 4, ground := Ground.phase }, { on := 5, ground := Ground.phase }, { on := 6, ground := Ground.phase }, { on := 7, ground := Ground.phase }], guard := none }) rfl (fun K hK => ?_) AllReadyH.nil
  go_simp
  have HC8 := Lib.hid (HC7.out.put ⟨y.l, y.j, y.c, y.m, y.a, y.p, y.fd, y.tl, y.cy⟩)
  clear hHeld HC7 h1 h2 h3 h4 a0 a1 a2 a3 a4 a5 a6 a7 a8 af
  obtain ⟨_, ⟨h1, h2, h3, h4⟩, _⟩ := HC8.out.hand.cells
  refine hK.out _ _ ?_ (fun hHeld => ?_)
  · exact ⟨h1, h2, h3, h4⟩
  clear hK K
  try simp only [Act.put, List.setIfInBounds_toArray, List.set_cons_zero, List.set_cons_succ]
  refine wpAnyH_done (by kernel_rfl) ?_ _
  clear hHeld h1 h2 h3 h4
  have HCe := Lib.hid HC8.out
  obtain ⟨d0, d1, d2, d3, d4, d5, d6, d7, d8, df⟩ := HCe.out.cells
  dsimp only at d0 d1 d2 d3 d4 d5 d6 d7 d8
  obtain ⟨c0, c1, c2, c3, c4, c5, c6, c7, c8, cf⟩ := HCe.out.cellsY
  obtain ⟨s0, s1, s2, s3, s4, s5, s6, s7, s8, sf⟩ := (HCe.out.last ⟨y.l, y.j, y.c, y.m, y.a, y.p, y.fd, y.tl, y.cy⟩).cells
  dsimp only at s0 s1 s2 s3 s4 s5 s6 s7 s8
  clear HC8 
  go_wp2_with fail
  refine bodyPost_ret (v := .tuple #[(colV y.l y.j y.c y.m y.a y.p y.fd y.tl y.cy), .bool true]) (by simp [results, Tryd.f35, go_sem, s0, s1, s2, s3, s4, s5, s6, s7, s8]) rfl ?_
  exact ⟨rfl, HCe.out.fin ⟨y.l, y.j, y.c, y.m, y.a, y.p, y.fd, y.tl, y.cy⟩⟩
end Go.Proofs.YthdcapkchjamoaaDoor
