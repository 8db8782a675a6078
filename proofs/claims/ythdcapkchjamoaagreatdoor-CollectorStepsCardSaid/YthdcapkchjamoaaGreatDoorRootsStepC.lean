/- A step of package roots: line 2. -/
import Derived.Test.YthdcapkchjamoaaGreatDoorM7
import Derived.Test.YthdcapkchjamoaaGreatDoorPlaceAt
namespace Go.Proofs.YthdcapkchjamoaaGreatDoor
open Go Go.RowKit
set_option maxRecDepth 100000
attribute [local go_sem ↓] Go.wp_at_zero Go.wp_at_succ

set_option maxHeartbeats 3200000 in
theorem roStep_shade {w : World} {H A G : Nat} {C : Cf} {s : Dy} (hH : HAt w H A G C s) (hu : s.U) (hS : SpansAt w) (hr : Right C.a C.b C.c C.d) (j c m a : Int) (fd : Bool) (tl cy : Int) (hn : 0 < C.n) (hj : -1000000000000 ≤ j ∧ j ≤ 1000000000000) (v : Nat) (hv : v < 18446744073709551616) :
    Calls Tryz.prog 43 #[.pointer (some ⟨H, 0, none⟩), (colV 2 j c m a (v : Int) fd tl cy)] w (HP w H A G C (s.act C 3 (fieldP C.a C.b C.c C.d v 2) 0 1) (.tuple #[(nextRoot C ⟨2, j, c, m, a, (v : Int), fd, tl, cy⟩).v, .bool true])) := by
  have HC0 := Lib.hid (ColF.start hH ⟨2, j, c, m, a, (v : Int), fd, tl, cy⟩)
  have HSP : Hid (∀ W s' x', ColF w W H A G C s' x' → SpansAt W) := Lib.hid (fun W s' x' h => spans_sav hn hS hH h.sav)
  have HI : Hid (∀ W, Calls Tryz.prog 71 #[.int .u64 (v : Int)] W fun e w' => e = .returned (.tuple #[.int .i64 (cellK v), .bool (decide (isC v))]) ∧ W = w') := Lib.hid (fun W => isCell_c v hv W)
  generalize cellK v = k at *
  generalize decide (isC v) = bo at *
  have HFd : Hid (∀ W, HAt W H A G C s → SpansAt W → Calls Tryz.prog 73 #[.pointer (some ⟨H, 0, none⟩), .int .u64 (v : Int), .int .i64 2] W fun e w' => e = .returned (.int .i64 (fieldP C.a C.b C.c C.d v 2)) ∧ Below W.heap.size W w') := Lib.hid (fun W hW hs => hField_c (w := W) hW hs v hv 2)
  have HD : Hid (∀ W, HAt W H A G C s → Calls Tryz.prog 72 #[.pointer (some ⟨H, 0, none⟩), .int .i64 (fieldP C.a C.b C.c C.d v 2), .int .u64 0, .int .u64 1] W (HP W H A G C (s.act C 3 (fieldP C.a C.b C.c C.d v 2) 0 1) (.bool (casB C.n s.f (fieldP C.a C.b C.c C.d v 2) 0)))) := Lib.hid (fun W hW => hCas_c (w := W) hW hu (fieldP C.a C.b C.c C.d v 2) 0 1)
  generalize (s.act C 3 (fieldP C.a C.b C.c C.d v 2) 0 1) = s' at *
  generalize (casB C.n s.f (fieldP C.a C.b C.c C.d v 2) 0) = b2 at *
  generalize (fieldP C.a C.b C.c C.d v 2) = P at *
  obtain ⟨y, hy⟩ : ∃ y, nextRoot C ⟨2, j, c, m, a, (v : Int), fd, tl, cy⟩ = y := ⟨_, rfl⟩
  have HNx : Hid (∀ W, Calls Tryz.prog 74 #[(colV 2 j c m a (v : Int) fd tl cy), .int .i64 (1 + C.d + C.b * C.c)] W fun e w' => e = .returned y.v ∧ Below W.heap.size W w') := Lib.hid (fun W => by rw [← hy]; exact next_c C hr 2 j c m a (v : Int) fd tl cy hj W)
  have HRo : Hid (∀ W, SpansAt W → Calls Tryz.prog 75 #[(.agg #[.int .i64 C.a, .int .i64 C.b, .int .i64 C.c, .int .i64 C.d])] W fun e w' => e = .returned (.int .i64 (1 + C.d + C.b * C.c)) ∧ Below W.heap.size W w') := Lib.hid (fun W hW => roots_right C.a C.b C.c C.d hr W hW)
  generalize (1 + C.d + C.b * C.c) = nn at *
  rw [hy]
  clear hy
  clear hH hu hS hr hv hj hn
  obtain ⟨a0, a1, a2, a3, a4, a5, a6, a7, a8, af⟩ := HC0.out.cells
  dsimp only at a0 a1 a2 a3 a4 a5 a6 a7 a8
  go_enter Tryz.func43, Tryz.ntmps43
  go_wp2_with fail
  refine (HI.out _).mono ?_
  rintro e V1 ⟨rfl, rfl⟩
  clear HI
  go_wp2_with fail
  refine (HFd.out _ HC0.out.hand (HSP.out _ _ _ HC0.out)).mono ?_
  rintro e V2 ⟨rfl, hb⟩
  have HC1 := Lib.hid (HC0.out.below hb)
  clear HC0
  clear hb
  clear HFd a0 a1 a2 a3 a4 a5 a6 a7 a8 af
  obtain ⟨a0, a1, a2, a3, a4, a5, a6, a7, a8, af⟩ := HC1.out.cells
  dsimp only at a0 a1 a2 a3 a4 a5 a6 a7 a8
  go_wp2_with fail
  refine (HD.out _ HC1.out.hand).mono ?_
  rintro e V3 ⟨rfl, hF, hs⟩
  have HC2 := Lib.hid (HC1.out.handed hF hs)
  clear HC1 hF hs
  clear HD a0 a1 a2 a3 a4 a5 a6 a7 a8 af
  obtain ⟨a0, a1, a2, a3, a4, a5, a6, a7, a8, af⟩ := HC2.out.cells
  dsimp only at a0 a1 a2 a3 a4 a5 a6 a7 a8
  obtain ⟨_, ⟨h1, h2, h3, h4⟩, _⟩ := HC2.out.hand.cells
  go_wp2_with fail
  refine wp_region_held_drew (S := (fun w' => w'.cell? ⟨H, 1, none⟩ = some (.int .i64 C.a) ∧ w'.cell? ⟨H, 2, none⟩ = some (.int .i64 C.b) ∧ w'.cell? ⟨H, 3, none⟩ = some (.int .i64 C.c) ∧ w'.cell? ⟨H, 4, none⟩ = some (.int .i64 C.d))) (by kernel_rfl) ?_ (fun hHeld => ?_)
  · exact ⟨h1, h2, h3, h4⟩
  refine wpAnyH_take (i := 1) (oi := { dst := some 53, op := Op.move (Operand.tmp 0), type := 32, pos := "roots.go:51", after := #[], guard := none }) (v := ?vn1) rfl (by kernel_rfl) (by kernel_rfl) (by kernel_rfl) (fun _ _ _ h => h) (Or.inl ⟨by rfl, ?hyn1⟩) hHeld ?_
  case hyn1 => (intro w hSw; (try dsimp only at hSw); go_simp; (try with_reducible rfl))
  try simp only [Act.put, List.setIfInBounds_toArray, List.set_cons_zero, List.set_cons_succ]
  refine wpAnyH_take (i := 2) (oi := { dst := some 54, op := Op.nilCheck (Operand.tmp 53), type := 0, pos := "roots.go:51", after := #[{ on := 1, ground := Ground.data }], guard := none }) (v := ?vn2) rfl (by kernel_rfl) (by kernel_rfl) (by kernel_rfl) (fun _ _ _ h => h) (Or.inl ⟨by rfl, ?hyn2⟩) hHeld ?_
  case hyn2 => (intro w hSw; (try dsimp only at hSw); go_simp; (try with_reducible rfl))
  try simp only [Act.put, List.setIfInBounds_toArray, List.set_cons_zero, List.set_cons_succ]
  refine wpAnyH_take (i := 3) (oi := { dst := some 55, op := Op.fieldAddr 52 (Operand.tmp 54) 1, type := 0, pos := "roots.go:51", after := #[{ on := 2, ground := Ground.data }], guard := none }) (v := ?vn3) rfl (by kernel_rfl) (by kernel_rfl) (by kernel_rfl) (fun _ _ _ h => h) (Or.inl ⟨by rfl, ?hyn3⟩) hHeld ?_
  case hyn3 => (intro w hSw; (try dsimp only at hSw); go_simp; (try with_reducible rfl))
  try simp only [Act.put, List.setIfInBounds_toArray, List.set_cons_zero, List.set_cons_succ]
  refine wpAnyH_take (i := 4) (oi := { dst := some 56, op := Op.fieldAddr 48 (Operand.tmp 55) 0, type := 0, pos := "roots.go:51", after := #[{ on := 3, ground := Ground.data }], guard := none }) (v := ?vn4) rfl (by kernel_rfl) (by kernel_rfl) (by kernel_rfl) (fun _ _ _ h => h) (Or.inl ⟨by rfl, ?hyn4⟩) hHeld ?_
  case hyn4 => (intro w hSw; (try dsimp only at hSw); go_simp; (try with_reducible rfl))
  try simp only [Act.put, List.setIfInBounds_toArray, List.set_cons_zero, List.set_cons_succ]
  refine wpAnyH_take (i := 5) (oi := { dst := some 57, op := Op.load 23 (Operand.tmp 56), type := 23, pos := "roots.go:51", after := #[{ on := 4, ground := Ground.data }], guard := none }) (v := ?vn5) rfl (by kernel_rfl) (by kernel_rfl) (by kernel_rfl) (fun _ _ _ h => h) (Or.inl ⟨by rfl, ?hyn5⟩) hHeld ?_
  case hyn5 => (intro w hSw; (try dsimp only at hSw); go_simp; (try with_reducible rfl))
  try simp only [Act.put, List.setIfInBounds_toArray, List.set_cons_zero, List.set_cons_succ]
  refine wpAnyH_ready (rs := [0, 6]) (by kernel_rfl) (by simp) ?_
  refine AllReadyH.cons (o := { dst := some 52, op := Op.load 28 (Operand.tmp 3), type := 28, pos := "roots.go:51", after := #[], guard := none }) rfl (fun K hK => ?_) ?_
  · go_simp
    skip
    refine hK.out _ _ ?_ (fun hHeld => ?_)
    · exact ⟨h1, h2, h3, h4⟩
    clear hK K
    try simp only [Act.put, List.setIfInBounds_toArray, List.set_cons_zero, List.set_cons_succ]
    refine wpAnyH_ready (rs := [6]) (by kernel_rfl) (by simp) ?_
    refine AllReadyH.cons (o := { dst := some 58, op := Op.call { callee := Callee.value (Operand.func 75), args := #[Operand.tmp 57], argTypes := #[23] }, type := 3, pos := "roots.go:51", after := #[{ on := 5, ground := Ground.data }], guard := none }) rfl (fun K hK => ?_) AllReadyH.nil
    go_simp
    have HC3 := Lib.hid HC2.out.drew
    clear HC2
    refine (HRo.out _ (HSP.out _ _ _ HC3.out)).mono ?_
    rintro e V11 ⟨rfl, hb⟩
    have HC4 := Lib.hid (HC3.out.below hb)
    clear HC3
    clear hb
    clear hHeld HRo h1 h2 h3 h4 a0 a1 a2 a3 a4 a5 a6 a7 a8 af
    obtain ⟨a0, a1, a2, a3, a4, a5, a6, a7, a8, af⟩ := HC4.out.cells
    dsimp only at a0 a1 a2 a3 a4 a5 a6 a7 a8
    obtain ⟨_, ⟨h1, h2, h3, h4⟩, _⟩ := HC4.out.hand.cells
    refine hK.out _ _ ?_ (fun hHeld => ?_)
    · exact ⟨h1, h2, h3, h4⟩
    clear hK K
    try simp only [Act.put, List.setIfInBounds_toArray, List.set_cons_zero, List.set_cons_succ]
    refine wpAnyH_ready (rs := [7]) (by kernel_rfl) (by simp) ?_
    refine AllReadyH.cons (o := { dst := some 59, op := Op.call { callee := Callee.value (Operand.func 74), args := #[Operand.tmp 52, Operand.tmp 58], argTypes := #[28, 3] }, type := 28, pos := "roots.go:51", after := #[{ on := 0, ground := Ground.data }, { on := 6, ground := Ground.data }, { on := 6, ground := Ground.chain }], guard := none }) rfl (fun K hK => ?_) AllReadyH.nil
    go_simp
    refine (HNx.out _).mono ?_
    rintro e V12 ⟨rfl, hb⟩
    have HC5 := Lib.hid (HC4.out.below hb)
    clear HC4
    clear hb
    clear hHeld HNx h1 h2 h3 h4 a0 a1 a2 a3 a4 a5 a6 a7 a8 af
    obtain ⟨a0, a1, a2, a3, a4, a5, a6, a7, a8, af⟩ := HC5.out.cells
    dsimp only at a0 a1 a2 a3 a4 a5 a6 a7 a8
    obtain ⟨_, ⟨h1, h2, h3, h4⟩, _⟩ := HC5.out.hand.cells
    refine hK.out _ _ ?_ (fun hHeld => ?_)
    · exact ⟨h1, h2, h3, h4⟩
    clear hK K
    try simp only [Act.put, List.setIfInBounds_toArray, List.set_cons_zero, List.set_cons_succ]
    refine wpAnyH_ready (rs := [8]) (by kernel_rfl) (by simp) ?_
    refine AllReadyH.cons (o := { dst := none, op := Op.store 28 (Operand.tmp 3) (Operand.tmp 59), type := 0, pos := "roots.go:51", after := #[{ on := 7, ground := Ground.data }, { on := 7, ground := Ground.chain }, { on := 0, ground := Ground.phase }, { on := 1, ground := Ground.phase }, { on := 2, ground := Ground.phase }, { on := 3, ground := Ground.phase }, { on := 4, ground := Ground.phase }, { on := 5, ground := Ground.phase }, { on := 6, ground := Ground.phase }, { on := 7, ground := Ground.phase }], guard := none }) rfl (fun K hK => ?_) AllReadyH.nil
    go_simp
    have HC6 := Lib.hid (HC5.out.put ⟨y.l, y.j, y.c, y.m, y.a, y.p, y.fd, y.tl, y.cy⟩)
    clear hHeld HC5 h1 h2 h3 h4 a0 a1 a2 a3 a4 a5 a6 a7 a8 af
    obtain ⟨_, ⟨h1, h2, h3, h4⟩, _⟩ := HC6.out.hand.cells
    refine hK.out _ _ ?_ (fun hHeld => ?_)
    · exact ⟨h1, h2, h3, h4⟩
    clear hK K
    try simp only [Act.put, List.setIfInBounds_toArray, List.set_cons_zero, List.set_cons_succ]
    refine wpAnyH_done (by kernel_rfl) ?_ _
    clear hHeld h1 h2 h3 h4
    have HCe := Lib.hid HC6.out
    obtain ⟨d0, d1, d2, d3, d4, d5, d6, d7, d8, df⟩ := HCe.out.cells
    dsimp only at d0 d1 d2 d3 d4 d5 d6 d7 d8
    obtain ⟨c0, c1, c2, c3, c4, c5, c6, c7, c8, cf⟩ := HCe.out.cellsY
    obtain ⟨s0, s1, s2, s3, s4, s5, s6, s7, s8, sf⟩ := (HCe.out.last ⟨y.l, y.j, y.c, y.m, y.a, y.p, y.fd, y.tl, y.cy⟩).cells
    dsimp only at s0 s1 s2 s3 s4 s5 s6 s7 s8
    clear HC6 
    go_wp2_with fail
    refine bodyPost_ret (v := .tuple #[(colV y.l y.j y.c y.m y.a y.p y.fd y.tl y.cy), .bool true]) (by simp [results, Tryz.f43, go_sem, s0, s1, s2, s3, s4, s5, s6, s7, s8]) rfl ?_
    exact ⟨rfl, HCe.out.fin ⟨y.l, y.j, y.c, y.m, y.a, y.p, y.fd, y.tl, y.cy⟩⟩
  refine AllReadyH.cons (o := { dst := some 58, op := Op.call { callee := Callee.value (Operand.func 75), args := #[Operand.tmp 57], argTypes := #[23] }, type := 3, pos := "roots.go:51", after := #[{ on := 5, ground := Ground.data }], guard := none }) rfl (fun K hK => ?_) AllReadyH.nil
  go_simp
  have HC3 := Lib.hid HC2.out.drew
  clear HC2
  refine (HRo.out _ (HSP.out _ _ _ HC3.out)).mono ?_
  rintro e V11 ⟨rfl, hb⟩
  have HC4 := Lib.hid (HC3.out.below hb)
  clear HC3
  clear hb
  clear hHeld HRo h1 h2 h3 h4 a0 a1 a2 a3 a4 a5 a6 a7 a8 af
  obtain ⟨a0, a1, a2, a3, a4, a5, a6, a7, a8, af⟩ := HC4.out.cells
  dsimp only at a0 a1 a2 a3 a4 a5 a6 a7 a8
  obtain ⟨_, ⟨h1, h2, h3, h4⟩, _⟩ := HC4.out.hand.cells
  refine hK.out _ _ ?_ (fun hHeld => ?_)
  · exact ⟨h1, h2, h3, h4⟩
  clear hK K
  try simp only [Act.put, List.setIfInBounds_toArray, List.set_cons_zero, List.set_cons_succ]
  refine wpAnyH_ready (rs := [0]) (by kernel_rfl) (by simp) ?_
  refine AllReadyH.cons (o := { dst := some 52, op := Op.load 28 (Operand.tmp 3), type := 28, pos := "roots.go:51", after := #[], guard := none }) rfl (fun K hK => ?_) AllReadyH.nil
  go_simp
  skip
  refine hK.out _ _ ?_ (fun hHeld => ?_)
  · exact ⟨h1, h2, h3, h4⟩
  clear hK K
  try simp only [Act.put, List.setIfInBounds_toArray, List.set_cons_zero, List.set_cons_succ]
  refine wpAnyH_ready (rs := [7]) (by kernel_rfl) (by simp) ?_
  refine AllReadyH.cons (o := { dst := some 59, op := Op.call { callee := Callee.value (Operand.func 74), args := #[Operand.tmp 52, Operand.tmp 58], argTypes := #[28, 3] }, type := 28, pos := "roots.go:51", after := #[{ on := 0, ground := Ground.data }, { on := 6, ground := Ground.data }, { on := 6, ground := Ground.chain }], guard := none }) rfl (fun K hK => ?_) AllReadyH.nil
  go_simp
  refine (HNx.out _).mono ?_
  rintro e V12 ⟨rfl, hb⟩
  have HC5 := Lib.hid (HC4.out.below hb)
  clear HC4
  clear hb
  clear hHeld HNx h1 h2 h3 h4 a0 a1 a2 a3 a4 a5 a6 a7 a8 af
  obtain ⟨a0, a1, a2, a3, a4, a5, a6, a7, a8, af⟩ := HC5.out.cells
  dsimp only at a0 a1 a2 a3 a4 a5 a6 a7 a8
  obtain ⟨_, ⟨h1, h2, h3, h4⟩, _⟩ := HC5.out.hand.cells
  refine hK.out _ _ ?_ (fun hHeld => ?_)
  · exact ⟨h1, h2, h3, h4⟩
  clear hK K
  try simp only [Act.put, List.setIfInBounds_toArray, List.set_cons_zero, List.set_cons_succ]
  refine wpAnyH_ready (rs := [8]) (by kernel_rfl) (by simp) ?_
  refine AllReadyH.cons (o := { dst := none, op := Op.store 28 (Operand.tmp 3) (Operand.tmp 59), type := 0, pos := "roots.go:51", after := #[{ on := 7, ground := Ground.data }, { on := 7, ground := Ground.chain }, { on := 0, ground := Ground.phase }, { on := 1, ground := Ground.phase }, { on := 2, ground := Ground.phase }, { on := 3, ground := Ground.phase }, { on := 4, ground := Ground.phase }, { on := 5, ground := Ground.phase }, { on := 6, ground := Ground.phase }, { on := 7, ground := Ground.phase }], guard := none }) rfl (fun K hK => ?_) AllReadyH.nil
  go_simp
  have HC6 := Lib.hid (HC5.out.put ⟨y.l, y.j, y.c, y.m, y.a, y.p, y.fd, y.tl, y.cy⟩)
  clear hHeld HC5 h1 h2 h3 h4 a0 a1 a2 a3 a4 a5 a6 a7 a8 af
  obtain ⟨_, ⟨h1, h2, h3, h4⟩, _⟩ := HC6.out.hand.cells
  refine hK.out _ _ ?_ (fun hHeld => ?_)
  · exact ⟨h1, h2, h3, h4⟩
  clear hK K
  try simp only [Act.put, List.setIfInBounds_toArray, List.set_cons_zero, List.set_cons_succ]
  refine wpAnyH_done (by kernel_rfl) ?_ _
  clear hHeld h1 h2 h3 h4
  have HCe := Lib.hid HC6.out
  obtain ⟨d0, d1, d2, d3, d4, d5, d6, d7, d8, df⟩ := HCe.out.cells
  dsimp only at d0 d1 d2 d3 d4 d5 d6 d7 d8
  obtain ⟨c0, c1, c2, c3, c4, c5, c6, c7, c8, cf⟩ := HCe.out.cellsY
  obtain ⟨s0, s1, s2, s3, s4, s5, s6, s7, s8, sf⟩ := (HCe.out.last ⟨y.l, y.j, y.c, y.m, y.a, y.p, y.fd, y.tl, y.cy⟩).cells
  dsimp only at s0 s1 s2 s3 s4 s5 s6 s7 s8
  clear HC6 
  go_wp2_with fail
  refine bodyPost_ret (v := .tuple #[(colV y.l y.j y.c y.m y.a y.p y.fd y.tl y.cy), .bool true]) (by simp [results, Tryz.f43, go_sem, s0, s1, s2, s3, s4, s5, s6, s7, s8]) rfl ?_
  exact ⟨rfl, HCe.out.fin ⟨y.l, y.j, y.c, y.m, y.a, y.p, y.fd, y.tl, y.cy⟩⟩
end Go.Proofs.YthdcapkchjamoaaGreatDoor
