/- The document's layer 17: looks at an in. -/
import Derived.Test.YthdcapkchjamoaaGreatDoorColF
import Derived.Test.YthdcapkchjamoaaGreatDoorPlaceRef
import Derived.Deep.CutRange
namespace Go.Proofs.YthdcapkchjamoaaGreatDoor
open Go Go.RowKit
set_option maxRecDepth 100000
attribute [local go_sem ↓] Go.wp_at_zero Go.wp_at_succ

theorem rIn_c {w : World} {X : Nat} {va : Option Addr} {cap N : Nat} {C : Cf} {s : Dy} (hH : RAt w X va cap N C s) (hr : Right C.a C.b C.c C.d) (i : Int) :
    Calls Tryz.prog 56 #[.pointer (some ⟨X, 0, none⟩), .int .i64 i] w fun e w' => e = .returned (.int .i64 (inP C.a C.b C.c C.d i)) ∧ Below w.heap.size w w' := by
  have HA : Hid (∀ W, Calls Tryz.prog 86 #[(.agg #[.int .i64 C.a, .int .i64 C.b, .int .i64 C.c, .int .i64 C.d]), .agg #[.int .i64 1, .int .i64 i, .int .i64 0]] W fun e w' => e = .returned (.int .i64 (inP C.a C.b C.c C.d i)) ∧ Below W.heap.size W w') := Lib.hid (fun W => refAt_in C.a C.b C.c C.d i hr W)
  obtain ⟨_, ⟨h1, h2, h3, h4⟩, _⟩ := hH.cells
  clear hH hr
  go_enter Tryz.func56, Tryz.ntmps56
  go_wp2_with fail
  refine (HA.out _).mono ?_
  rintro e W1 ⟨rfl, hb⟩
  clear HA h1 h2 h3 h4
  go_wp2_with fail
  go_ret
  exact ⟨rfl, hb⟩
set_option maxHeartbeats 3200000 in
theorem rb10_w1 {w : World} {X : Nat} {va : Option Addr} {cap N : Nat} {C : Cf} {s : Dy} (hH : RAt w X va cap N C s) (hL : ∀ R, va = some ⟨R, 0, none⟩ → R < w.heap.size) (hr : Right C.a C.b C.c C.d)  (j c m a p : Int) (fd : Bool) (tl cy : Int) (u : Nat) (hu6 : u < 18446744073709551616) (hT : z5 C.n 1 (inP C.a C.b C.c C.d m) (s.f (inP C.a C.b C.c C.d m).toNat) = (u : Int)) (hs : u % 4 = 1) :
    Calls Tryz.prog 29 #[.pointer (some ⟨X, 0, none⟩), (colV 10 j c m a p fd tl cy)] w (RP w X va cap N C (s.act C 1 (inP C.a C.b C.c C.d m) 0 0) (.tuple #[(colV 16 j c m (u : Int) p fd tl cy), .bool false, .bool true])) := by
  have HC0 := Lib.hid (ColR.start hH hL ⟨10, j, c, m, a, p, fd, tl, cy⟩)
  have HA : Hid (∀ W, RAt W X va cap N C s → Calls Tryz.prog 56 #[.pointer (some ⟨X, 0, none⟩), .int .i64 m] W fun e w' => e = .returned (.int .i64 (inP C.a C.b C.c C.d m)) ∧ Below W.heap.size W w') := Lib.hid (fun W hW => rIn_c (w := W) hW hr m)
  have HD : Hid (∀ W, RAt W X va cap N C s → (∀ R, va = some ⟨R, 0, none⟩ → R < W.heap.size) → Calls Tryz.prog 48 #[.pointer (some ⟨X, 0, none⟩), .int .i64 (inP C.a C.b C.c C.d m)] W (RP W X va cap N C (s.act C 1 (inP C.a C.b C.c C.d m) 0 0) (.int .u64 (z5 C.n 1 (inP C.a C.b C.c C.d m) (s.f ((inP C.a C.b C.c C.d m)).toNat))))) := Lib.hid (fun W hW hl => rLoad_c (w := W) hW hl (inP C.a C.b C.c C.d m))
  generalize (s.act C 1 (inP C.a C.b C.c C.d m) 0 0) = s' at *
  generalize (z5 C.n 1 (inP C.a C.b C.c C.d m) (s.f ((inP C.a C.b C.c C.d m)).toNat)) = T at *
  generalize (inP C.a C.b C.c C.d m) = P at *
  subst hT
  have ht : Int.tmod (u : Int) 4 = 1 := by rw [Int.tmod_eq_emod_of_nonneg (by omega)]; omega
  clear hs
  clear hH hL hr hu6
  obtain ⟨a0, a1, a2, a3, a4, a5, a6, a7, a8, af⟩ := HC0.out.cells
  dsimp only at a0 a1 a2 a3 a4 a5 a6 a7 a8
  go_enter Tryz.func29, Tryz.ntmps29
  go_wp2_with fail
  refine (HA.out _ HC0.out.hand).mono ?_
  rintro e V1 ⟨rfl, hb⟩
  have HC1 := Lib.hid (HC0.out.below hb)
  clear HC0
  clear hb
  clear HA a0 a1 a2 a3 a4 a5 a6 a7 a8 af
  obtain ⟨a0, a1, a2, a3, a4, a5, a6, a7, a8, af⟩ := HC1.out.cells
  dsimp only at a0 a1 a2 a3 a4 a5 a6 a7 a8
  go_wp2_with fail
  refine (HD.out _ HC1.out.hand HC1.out.ltR).mono ?_
  rintro e V2 ⟨rfl, hF, hs⟩
  have HC2 := Lib.hid (HC1.out.handed hF hs)
  clear HC1 hF hs
  clear HD a0 a1 a2 a3 a4 a5 a6 a7 a8 af
  obtain ⟨a0, a1, a2, a3, a4, a5, a6, a7, a8, af⟩ := HC2.out.cells
  dsimp only at a0 a1 a2 a3 a4 a5 a6 a7 a8
  have HCe := Lib.hid ((HC2.out.setA (u : Int)).setL 16)
  obtain ⟨b0, b1, b2, b3, b4, b5, b6, b7, b8, bf⟩ := HC2.out.cells
  dsimp only at b0 b1 b2 b3 b4 b5 b6 b7 b8
  obtain ⟨d0, d1, d2, d3, d4, d5, d6, d7, d8, df⟩ := HCe.out.cells
  dsimp only at d0 d1 d2 d3 d4 d5 d6 d7 d8
  obtain ⟨c0, c1, c2, c3, c4, c5, c6, c7, c8, cf⟩ := HCe.out.cellsY
  obtain ⟨s0, s1, s2, s3, s4, s5, s6, s7, s8, sf⟩ := (HCe.out.last ⟨16, j, c, m, (u : Int), p, fd, tl, cy⟩).cells
  dsimp only at s0 s1 s2 s3 s4 s5 s6 s7 s8
  clear HC2 a0 a1 a2 a3 a4 a5 a6 a7 a8 af
  go_wp2_with fail
  refine bodyPost_ret (v := .tuple #[(colV 16 j c m (u : Int) p fd tl cy), .bool false, .bool true]) (by simp [results, Tryz.f29, go_sem, s0, s1, s2, s3, s4, s5, s6, s7, s8]) rfl ?_
  exact ⟨rfl, HCe.out.fin ⟨16, j, c, m, (u : Int), p, fd, tl, cy⟩⟩
set_option maxHeartbeats 3200000 in
theorem rb10_w3 {w : World} {X : Nat} {va : Option Addr} {cap N : Nat} {C : Cf} {s : Dy} (hH : RAt w X va cap N C s) (hL : ∀ R, va = some ⟨R, 0, none⟩ → R < w.heap.size) (hr : Right C.a C.b C.c C.d)  (j c m a p : Int) (fd : Bool) (tl cy : Int) (u : Nat) (hu6 : u < 18446744073709551616) (hT : z5 C.n 1 (inP C.a C.b C.c C.d m) (s.f (inP C.a C.b C.c C.d m).toNat) = (u : Int)) (hs : u % 4 = 3) :
    Calls Tryz.prog 29 #[.pointer (some ⟨X, 0, none⟩), (colV 10 j c m a p fd tl cy)] w (RP w X va cap N C (s.act C 1 (inP C.a C.b C.c C.d m) 0 0) (.tuple #[(colV 16 j c m (u : Int) p fd tl cy), .bool false, .bool true])) := by
  have HC0 := Lib.hid (ColR.start hH hL ⟨10, j, c, m, a, p, fd, tl, cy⟩)
  have HA : Hid (∀ W, RAt W X va cap N C s → Calls Tryz.prog 56 #[.pointer (some ⟨X, 0, none⟩), .int .i64 m] W fun e w' => e = .returned (.int .i64 (inP C.a C.b C.c C.d m)) ∧ Below W.heap.size W w') := Lib.hid (fun W hW => rIn_c (w := W) hW hr m)
  have HD : Hid (∀ W, RAt W X va cap N C s → (∀ R, va = some ⟨R, 0, none⟩ → R < W.heap.size) → Calls Tryz.prog 48 #[.pointer (some ⟨X, 0, none⟩), .int .i64 (inP C.a C.b C.c C.d m)] W (RP W X va cap N C (s.act C 1 (inP C.a C.b C.c C.d m) 0 0) (.int .u64 (z5 C.n 1 (inP C.a C.b C.c C.d m) (s.f ((inP C.a C.b C.c C.d m)).toNat))))) := Lib.hid (fun W hW hl => rLoad_c (w := W) hW hl (inP C.a C.b C.c C.d m))
  generalize (s.act C 1 (inP C.a C.b C.c C.d m) 0 0) = s' at *
  generalize (z5 C.n 1 (inP C.a C.b C.c C.d m) (s.f ((inP C.a C.b C.c C.d m)).toNat)) = T at *
  generalize (inP C.a C.b C.c C.d m) = P at *
  subst hT
  have ht : Int.tmod (u : Int) 4 = 3 := by rw [Int.tmod_eq_emod_of_nonneg (by omega)]; omega
  clear hs
  clear hH hL hr hu6
  obtain ⟨a0, a1, a2, a3, a4, a5, a6, a7, a8, af⟩ := HC0.out.cells
  dsimp only at a0 a1 a2 a3 a4 a5 a6 a7 a8
  go_enter Tryz.func29, Tryz.ntmps29
  go_wp2_with fail
  refine (HA.out _ HC0.out.hand).mono ?_
  rintro e V1 ⟨rfl, hb⟩
  have HC1 := Lib.hid (HC0.out.below hb)
  clear HC0
  clear hb
  clear HA a0 a1 a2 a3 a4 a5 a6 a7 a8 af
  obtain ⟨a0, a1, a2, a3, a4, a5, a6, a7, a8, af⟩ := HC1.out.cells
  dsimp only at a0 a1 a2 a3 a4 a5 a6 a7 a8
  go_wp2_with fail
  refine (HD.out _ HC1.out.hand HC1.out.ltR).mono ?_
  rintro e V2 ⟨rfl, hF, hs⟩
  have HC2 := Lib.hid (HC1.out.handed hF hs)
  clear HC1 hF hs
  clear HD a0 a1 a2 a3 a4 a5 a6 a7 a8 af
  obtain ⟨a0, a1, a2, a3, a4, a5, a6, a7, a8, af⟩ := HC2.out.cells
  dsimp only at a0 a1 a2 a3 a4 a5 a6 a7 a8
  have HCe := Lib.hid ((HC2.out.setA (u : Int)).setL 16)
  obtain ⟨b0, b1, b2, b3, b4, b5, b6, b7, b8, bf⟩ := HC2.out.cells
  dsimp only at b0 b1 b2 b3 b4 b5 b6 b7 b8
  obtain ⟨d0, d1, d2, d3, d4, d5, d6, d7, d8, df⟩ := HCe.out.cells
  dsimp only at d0 d1 d2 d3 d4 d5 d6 d7 d8
  obtain ⟨c0, c1, c2, c3, c4, c5, c6, c7, c8, cf⟩ := HCe.out.cellsY
  obtain ⟨s0, s1, s2, s3, s4, s5, s6, s7, s8, sf⟩ := (HCe.out.last ⟨16, j, c, m, (u : Int), p, fd, tl, cy⟩).cells
  dsimp only at s0 s1 s2 s3 s4 s5 s6 s7 s8
  clear HC2 a0 a1 a2 a3 a4 a5 a6 a7 a8 af
  go_wp2_with fail
  refine bodyPost_ret (v := .tuple #[(colV 16 j c m (u : Int) p fd tl cy), .bool false, .bool true]) (by simp [results, Tryz.f29, go_sem, s0, s1, s2, s3, s4, s5, s6, s7, s8]) rfl ?_
  exact ⟨rfl, HCe.out.fin ⟨16, j, c, m, (u : Int), p, fd, tl, cy⟩⟩
set_option maxHeartbeats 3200000 in
theorem rb10_more {w : World} {X : Nat} {va : Option Addr} {cap N : Nat} {C : Cf} {s : Dy} (hH : RAt w X va cap N C s) (hL : ∀ R, va = some ⟨R, 0, none⟩ → R < w.heap.size) (hr : Right C.a C.b C.c C.d)  (j c m a p : Int) (fd : Bool) (tl cy : Int) (hm : -1000000000000 ≤ m ∧ m ≤ 1000000000000) (u : Nat) (hu6 : u < 18446744073709551616) (hT : z5 C.n 1 (inP C.a C.b C.c C.d m) (s.f (inP C.a C.b C.c C.d m).toNat) = (u : Int)) (hs : ¬ (u % 4 = 1 ∨ u % 4 = 3)) (hn : m + 1 < C.b) :
    Calls Tryz.prog 29 #[.pointer (some ⟨X, 0, none⟩), (colV 10 j c m a p fd tl cy)] w (RP w X va cap N C (s.act C 1 (inP C.a C.b C.c C.d m) 0 0) (.tuple #[(colV 10 j c (m + 1) 0 p fd tl cy), .bool false, .bool true])) := by
  have HC0 := Lib.hid (ColR.start hH hL ⟨10, j, c, m, a, p, fd, tl, cy⟩)
  have HA : Hid (∀ W, RAt W X va cap N C s → Calls Tryz.prog 56 #[.pointer (some ⟨X, 0, none⟩), .int .i64 m] W fun e w' => e = .returned (.int .i64 (inP C.a C.b C.c C.d m)) ∧ Below W.heap.size W w') := Lib.hid (fun W hW => rIn_c (w := W) hW hr m)
  have HD : Hid (∀ W, RAt W X va cap N C s → (∀ R, va = some ⟨R, 0, none⟩ → R < W.heap.size) → Calls Tryz.prog 48 #[.pointer (some ⟨X, 0, none⟩), .int .i64 (inP C.a C.b C.c C.d m)] W (RP W X va cap N C (s.act C 1 (inP C.a C.b C.c C.d m) 0 0) (.int .u64 (z5 C.n 1 (inP C.a C.b C.c C.d m) (s.f ((inP C.a C.b C.c C.d m)).toNat))))) := Lib.hid (fun W hW hl => rLoad_c (w := W) hW hl (inP C.a C.b C.c C.d m))
  generalize (s.act C 1 (inP C.a C.b C.c C.d m) 0 0) = s' at *
  generalize (z5 C.n 1 (inP C.a C.b C.c C.d m) (s.f ((inP C.a C.b C.c C.d m)).toNat)) = T at *
  generalize (inP C.a C.b C.c C.d m) = P at *
  subst hT
  obtain ⟨t, ht⟩ : ∃ t : Int, Int.tmod (u : Int) 4 = t := ⟨_, rfl⟩
  have htt : t = (u : Int) % 4 := by rw [← ht, Int.tmod_eq_emod_of_nonneg (by omega)]
  have hne1 : (t == 1) = false := by simp; omega
  have hne3 : (t == 3) = false := by simp; omega
  clear hs htt
  have hw1 : IntKind.i64.wrap (m + 1) = m + 1 := IntWalk.i64_in _ (by omega)
  have hr0 : 1 ≤ C.b ∧ C.b ≤ 63 := by unfold Right at hr; omega
  have hge : decide (C.b ≤ m + 1) = false := decide_eq_false (by omega)
  clear hH hL hr hu6 hm hn hr0
  obtain ⟨a0, a1, a2, a3, a4, a5, a6, a7, a8, af⟩ := HC0.out.cells
  dsimp only at a0 a1 a2 a3 a4 a5 a6 a7 a8
  go_enter Tryz.func29, Tryz.ntmps29
  go_wp2_with fail
  refine (HA.out _ HC0.out.hand).mono ?_
  rintro e V1 ⟨rfl, hb⟩
  have HC1 := Lib.hid (HC0.out.below hb)
  clear HC0
  clear hb
  clear HA a0 a1 a2 a3 a4 a5 a6 a7 a8 af
  obtain ⟨a0, a1, a2, a3, a4, a5, a6, a7, a8, af⟩ := HC1.out.cells
  dsimp only at a0 a1 a2 a3 a4 a5 a6 a7 a8
  go_wp2_with fail
  refine (HD.out _ HC1.out.hand HC1.out.ltR).mono ?_
  rintro e V2 ⟨rfl, hF, hs⟩
  have HC2 := Lib.hid (HC1.out.handed hF hs)
  clear HC1 hF hs
  clear HD a0 a1 a2 a3 a4 a5 a6 a7 a8 af
  obtain ⟨a0, a1, a2, a3, a4, a5, a6, a7, a8, af⟩ := HC2.out.cells
  dsimp only at a0 a1 a2 a3 a4 a5 a6 a7 a8
  obtain ⟨_, ⟨h1, h2, h3, h4⟩, _⟩ := HC2.out.hand.cells
  go_upto_region 14 with fail
  clear h1 h2 h3 h4
  have HC3 := Lib.hid (((HC2.out.setA 0).setL 10).setM (m + 1))
  clear HC2 a0 a1 a2 a3 a4 a5 a6 a7 a8 af
  obtain ⟨a0, a1, a2, a3, a4, a5, a6, a7, a8, af⟩ := HC3.out.cells
  dsimp only at a0 a1 a2 a3 a4 a5 a6 a7 a8
  obtain ⟨_, ⟨h1, h2, h3, h4⟩, _⟩ := HC3.out.hand.cells
  generalize (((V2.setCell ⟨w.heap.size, 4, none⟩ (.int .u64 0)).setCell ⟨w.heap.size, 0, none⟩ (.int .i64 10)).setCell ⟨w.heap.size, 3, none⟩ (.int .i64 (m + 1))) = W0 at *
  refine wp_region_held_drew (S := (fun w' => w'.cell? ⟨X, 1, none⟩ = some (.int .i64 C.b) ∧ w'.cell? ⟨w.heap.size, 3, none⟩ = some (.int .i64 (m + 1)))) (by kernel_rfl) ?_ (fun hHeld => ?_)
  · exact ⟨h2, a3⟩
  refine wpAnyH_take (i := 0) (oi := { dst := some 82, op := Op.fieldAddr 28 (Operand.tmp 3) 3, type := 0, pos := "ref.go:27", after := #[], guard := none }) (v := ?vz0) rfl (by kernel_rfl) (by kernel_rfl) (by kernel_rfl) (fun _ _ _ h => h) (Or.inl ⟨by rfl, ?hyz0⟩) hHeld ?_
  case hyz0 => (intro w hSw; (try dsimp only at hSw); go_simp; (try with_reducible rfl))
  try simp only [Act.put, List.setIfInBounds_toArray, List.set_cons_zero, List.set_cons_succ]
  refine wpAnyH_take (i := 1) (oi := { dst := some 83, op := Op.load 3 (Operand.tmp 82), type := 3, pos := "ref.go:27", after := #[{ on := 0, ground := Ground.data }], guard := none }) (v := ?vz1) rfl (by kernel_rfl) (by kernel_rfl) (by kernel_rfl) (fun _ _ _ h => h) (Or.inl ⟨by rfl, ?hyz1⟩) hHeld ?_
  case hyz1 => (intro w hSw; (try dsimp only at hSw); go_simp; (try with_reducible rfl))
  try simp only [Act.put, List.setIfInBounds_toArray, List.set_cons_zero, List.set_cons_succ]
  refine wpAnyH_take (i := 2) (oi := { dst := some 84, op := Op.move (Operand.tmp 0), type := 33, pos := "ref.go:27", after := #[], guard := none }) (v := ?vz2) rfl (by kernel_rfl) (by kernel_rfl) (by kernel_rfl) (fun _ _ _ h => h) (Or.inl ⟨by rfl, ?hyz2⟩) hHeld ?_
  case hyz2 => (intro w hSw; (try dsimp only at hSw); go_simp; (try with_reducible rfl))
  try simp only [Act.put, List.setIfInBounds_toArray, List.set_cons_zero, List.set_cons_succ]
  refine wpAnyH_take (i := 3) (oi := { dst := some 85, op := Op.nilCheck (Operand.tmp 84), type := 0, pos := "ref.go:27", after := #[{ on := 2, ground := Ground.data }], guard := none }) (v := ?vz3) rfl (by kernel_rfl) (by kernel_rfl) (by kernel_rfl) (fun _ _ _ h => h) (Or.inl ⟨by rfl, ?hyz3⟩) hHeld ?_
  case hyz3 => (intro w hSw; (try dsimp only at hSw); go_simp; (try with_reducible rfl))
  try simp only [Act.put, List.setIfInBounds_toArray, List.set_cons_zero, List.set_cons_succ]
  refine wpAnyH_take (i := 4) (oi := { dst := some 86, op := Op.fieldAddr 59 (Operand.tmp 85) 0, type := 0, pos := "ref.go:27", after := #[{ on := 3, ground := Ground.data }], guard := none }) (v := ?vz4) rfl (by kernel_rfl) (by kernel_rfl) (by kernel_rfl) (fun _ _ _ h => h) (Or.inl ⟨by rfl, ?hyz4⟩) hHeld ?_
  case hyz4 => (intro w hSw; (try dsimp only at hSw); go_simp; (try with_reducible rfl))
  try simp only [Act.put, List.setIfInBounds_toArray, List.set_cons_zero, List.set_cons_succ]
  refine wpAnyH_take (i := 5) (oi := { dst := some 87, op := Op.fieldAddr 23 (Operand.tmp 86) 1, type := 0, pos := "ref.go:27", after := #[{ on := 4, ground := Ground.data }], guard := none }) (v := ?vz5) rfl (by kernel_rfl) (by kernel_rfl) (by kernel_rfl) (fun _ _ _ h => h) (Or.inl ⟨by rfl, ?hyz5⟩) hHeld ?_
  case hyz5 => (intro w hSw; (try dsimp only at hSw); go_simp; (try with_reducible rfl))
  try simp only [Act.put, List.setIfInBounds_toArray, List.set_cons_zero, List.set_cons_succ]
  refine wpAnyH_take (i := 6) (oi := { dst := some 88, op := Op.load 3 (Operand.tmp 87), type := 3, pos := "ref.go:27", after := #[{ on := 5, ground := Ground.data }], guard := none }) (v := ?vz6) rfl (by kernel_rfl) (by kernel_rfl) (by kernel_rfl) (fun _ _ _ h => h) (Or.inl ⟨by rfl, ?hyz6⟩) hHeld ?_
  case hyz6 => (intro w hSw; (try dsimp only at hSw); go_simp; (try with_reducible rfl))
  try simp only [Act.put, List.setIfInBounds_toArray, List.set_cons_zero, List.set_cons_succ]
  refine wpAnyH_take (i := 7) (oi := { dst := some 89, op := Op.binOp BinOp.geq 3 (Operand.tmp 83) (Operand.tmp 88) 3, type := 4, pos := "ref.go:27", after := #[{ on := 1, ground := Ground.data }, { on := 6, ground := Ground.data }], guard := none }) (v := ?vz7) rfl (by kernel_rfl) (by kernel_rfl) (by kernel_rfl) (fun _ _ _ h => h) (Or.inl ⟨by rfl, ?hyz7⟩) hHeld ?_
  case hyz7 => (intro w hSw; (try dsimp only at hSw); go_simp; (try with_reducible rfl))
  try simp only [Act.put, List.setIfInBounds_toArray, List.set_cons_zero, List.set_cons_succ]
  refine wpAnyH_done (by kernel_rfl) ?_ _
  have HC4 := Lib.hid HC3.out.drew
  clear hHeld h1 h2 h3 h4 HC3 a0 a1 a2 a3 a4 a5 a6 a7 a8 af
  generalize W0.drew = W1 at *
  obtain ⟨a0, a1, a2, a3, a4, a5, a6, a7, a8, af⟩ := HC4.out.cells
  dsimp only at a0 a1 a2 a3 a4 a5 a6 a7 a8
  have HCe := Lib.hid HC4.out
  obtain ⟨d0, d1, d2, d3, d4, d5, d6, d7, d8, df⟩ := HCe.out.cells
  dsimp only at d0 d1 d2 d3 d4 d5 d6 d7 d8
  obtain ⟨c0, c1, c2, c3, c4, c5, c6, c7, c8, cf⟩ := HCe.out.cellsY
  obtain ⟨s0, s1, s2, s3, s4, s5, s6, s7, s8, sf⟩ := (HCe.out.last ⟨10, j, c, (m + 1), 0, p, fd, tl, cy⟩).cells
  dsimp only at s0 s1 s2 s3 s4 s5 s6 s7 s8
  clear HC4 a0 a1 a2 a3 a4 a5 a6 a7 a8 af
  go_wp2_with fail
  refine bodyPost_ret (v := .tuple #[(colV 10 j c (m + 1) 0 p fd tl cy), .bool false, .bool true]) (by simp [results, Tryz.f29, go_sem, s0, s1, s2, s3, s4, s5, s6, s7, s8]) rfl ?_
  exact ⟨rfl, HCe.out.fin ⟨10, j, c, (m + 1), 0, p, fd, tl, cy⟩⟩
set_option maxHeartbeats 3200000 in
theorem rb10_over {w : World} {X : Nat} {va : Option Addr} {cap N : Nat} {C : Cf} {s : Dy} (hH : RAt w X va cap N C s) (hL : ∀ R, va = some ⟨R, 0, none⟩ → R < w.heap.size) (hr : Right C.a C.b C.c C.d)  (j c m a p : Int) (fd : Bool) (tl cy : Int) (hm : -1000000000000 ≤ m ∧ m ≤ 1000000000000) (u : Nat) (hu6 : u < 18446744073709551616) (hT : z5 C.n 1 (inP C.a C.b C.c C.d m) (s.f (inP C.a C.b C.c C.d m).toNat) = (u : Int)) (hs : ¬ (u % 4 = 1 ∨ u % 4 = 3)) (hn : ¬ m + 1 < C.b) :
    Calls Tryz.prog 29 #[.pointer (some ⟨X, 0, none⟩), (colV 10 j c m a p fd tl cy)] w (RP w X va cap N C (s.act C 1 (inP C.a C.b C.c C.d m) 0 0) (.tuple #[(colV 11 j c 0 0 p fd tl cy), .bool false, .bool true])) := by
  have HC0 := Lib.hid (ColR.start hH hL ⟨10, j, c, m, a, p, fd, tl, cy⟩)
  have HA : Hid (∀ W, RAt W X va cap N C s → Calls Tryz.prog 56 #[.pointer (some ⟨X, 0, none⟩), .int .i64 m] W fun e w' => e = .returned (.int .i64 (inP C.a C.b C.c C.d m)) ∧ Below W.heap.size W w') := Lib.hid (fun W hW => rIn_c (w := W) hW hr m)
  have HD : Hid (∀ W, RAt W X va cap N C s → (∀ R, va = some ⟨R, 0, none⟩ → R < W.heap.size) → Calls Tryz.prog 48 #[.pointer (some ⟨X, 0, none⟩), .int .i64 (inP C.a C.b C.c C.d m)] W (RP W X va cap N C (s.act C 1 (inP C.a C.b C.c C.d m) 0 0) (.int .u64 (z5 C.n 1 (inP C.a C.b C.c C.d m) (s.f ((inP C.a C.b C.c C.d m)).toNat))))) := Lib.hid (fun W hW hl => rLoad_c (w := W) hW hl (inP C.a C.b C.c C.d m))
  generalize (s.act C 1 (inP C.a C.b C.c C.d m) 0 0) = s' at *
  generalize (z5 C.n 1 (inP C.a C.b C.c C.d m) (s.f ((inP C.a C.b C.c C.d m)).toNat)) = T at *
  generalize (inP C.a C.b C.c C.d m) = P at *
  subst hT
  obtain ⟨t, ht⟩ : ∃ t : Int, Int.tmod (u : Int) 4 = t := ⟨_, rfl⟩
  have htt : t = (u : Int) % 4 := by rw [← ht, Int.tmod_eq_emod_of_nonneg (by omega)]
  have hne1 : (t == 1) = false := by simp; omega
  have hne3 : (t == 3) = false := by simp; omega
  clear hs htt
  have hw1 : IntKind.i64.wrap (m + 1) = m + 1 := IntWalk.i64_in _ (by omega)
  have hr0 : 1 ≤ C.b ∧ C.b ≤ 63 := by unfold Right at hr; omega
  have hge : decide (C.b ≤ m + 1) = true := decide_eq_true (by omega)
  clear hH hL hr hu6 hm hn hr0
  obtain ⟨a0, a1, a2, a3, a4, a5, a6, a7, a8, af⟩ := HC0.out.cells
  dsimp only at a0 a1 a2 a3 a4 a5 a6 a7 a8
  go_enter Tryz.func29, Tryz.ntmps29
  go_wp2_with fail
  refine (HA.out _ HC0.out.hand).mono ?_
  rintro e V1 ⟨rfl, hb⟩
  have HC1 := Lib.hid (HC0.out.below hb)
  clear HC0
  clear hb
  clear HA a0 a1 a2 a3 a4 a5 a6 a7 a8 af
  obtain ⟨a0, a1, a2, a3, a4, a5, a6, a7, a8, af⟩ := HC1.out.cells
  dsimp only at a0 a1 a2 a3 a4 a5 a6 a7 a8
  go_wp2_with fail
  refine (HD.out _ HC1.out.hand HC1.out.ltR).mono ?_
  rintro e V2 ⟨rfl, hF, hs⟩
  have HC2 := Lib.hid (HC1.out.handed hF hs)
  clear HC1 hF hs
  clear HD a0 a1 a2 a3 a4 a5 a6 a7 a8 af
  obtain ⟨a0, a1, a2, a3, a4, a5, a6, a7, a8, af⟩ := HC2.out.cells
  dsimp only at a0 a1 a2 a3 a4 a5 a6 a7 a8
  obtain ⟨_, ⟨h1, h2, h3, h4⟩, _⟩ := HC2.out.hand.cells
  go_upto_region 14 with fail
  clear h1 h2 h3 h4
  have HC3 := Lib.hid (((HC2.out.setA 0).setL 10).setM (m + 1))
  clear HC2 a0 a1 a2 a3 a4 a5 a6 a7 a8 af
  obtain ⟨a0, a1, a2, a3, a4, a5, a6, a7, a8, af⟩ := HC3.out.cells
  dsimp only at a0 a1 a2 a3 a4 a5 a6 a7 a8
  obtain ⟨_, ⟨h1, h2, h3, h4⟩, _⟩ := HC3.out.hand.cells
  generalize (((V2.setCell ⟨w.heap.size, 4, none⟩ (.int .u64 0)).setCell ⟨w.heap.size, 0, none⟩ (.int .i64 10)).setCell ⟨w.heap.size, 3, none⟩ (.int .i64 (m + 1))) = W0 at *
  refine wp_region_held_drew (S := (fun w' => w'.cell? ⟨X, 1, none⟩ = some (.int .i64 C.b) ∧ w'.cell? ⟨w.heap.size, 3, none⟩ = some (.int .i64 (m + 1)))) (by kernel_rfl) ?_ (fun hHeld => ?_)
  · exact ⟨h2, a3⟩
  refine wpAnyH_take (i := 0) (oi := { dst := some 82, op := Op.fieldAddr 28 (Operand.tmp 3) 3, type := 0, pos := "ref.go:27", after := #[], guard := none }) (v := ?vz0) rfl (by kernel_rfl) (by kernel_rfl) (by kernel_rfl) (fun _ _ _ h => h) (Or.inl ⟨by rfl, ?hyz0⟩) hHeld ?_
  case hyz0 => (intro w hSw; (try dsimp only at hSw); go_simp; (try with_reducible rfl))
  try simp only [Act.put, List.setIfInBounds_toArray, List.set_cons_zero, List.set_cons_succ]
  refine wpAnyH_take (i := 1) (oi := { dst := some 83, op := Op.load 3 (Operand.tmp 82), type := 3, pos := "ref.go:27", after := #[{ on := 0, ground := Ground.data }], guard := none }) (v := ?vz1) rfl (by kernel_rfl) (by kernel_rfl) (by kernel_rfl) (fun _ _ _ h => h) (Or.inl ⟨by rfl, ?hyz1⟩) hHeld ?_
  case hyz1 => (intro w hSw; (try dsimp only at hSw); go_simp; (try with_reducible rfl))
  try simp only [Act.put, List.setIfInBounds_toArray, List.set_cons_zero, List.set_cons_succ]
  refine wpAnyH_take (i := 2) (oi := { dst := some 84, op := Op.move (Operand.tmp 0), type := 33, pos := "ref.go:27", after := #[], guard := none }) (v := ?vz2) rfl (by kernel_rfl) (by kernel_rfl) (by kernel_rfl) (fun _ _ _ h => h) (Or.inl ⟨by rfl, ?hyz2⟩) hHeld ?_
  case hyz2 => (intro w hSw; (try dsimp only at hSw); go_simp; (try with_reducible rfl))
  try simp only [Act.put, List.setIfInBounds_toArray, List.set_cons_zero, List.set_cons_succ]
  refine wpAnyH_take (i := 3) (oi := { dst := some 85, op := Op.nilCheck (Operand.tmp 84), type := 0, pos := "ref.go:27", after := #[{ on := 2, ground := Ground.data }], guard := none }) (v := ?vz3) rfl (by kernel_rfl) (by kernel_rfl) (by kernel_rfl) (fun _ _ _ h => h) (Or.inl ⟨by rfl, ?hyz3⟩) hHeld ?_
  case hyz3 => (intro w hSw; (try dsimp only at hSw); go_simp; (try with_reducible rfl))
  try simp only [Act.put, List.setIfInBounds_toArray, List.set_cons_zero, List.set_cons_succ]
  refine wpAnyH_take (i := 4) (oi := { dst := some 86, op := Op.fieldAddr 59 (Operand.tmp 85) 0, type := 0, pos := "ref.go:27", after := #[{ on := 3, ground := Ground.data }], guard := none }) (v := ?vz4) rfl (by kernel_rfl) (by kernel_rfl) (by kernel_rfl) (fun _ _ _ h => h) (Or.inl ⟨by rfl, ?hyz4⟩) hHeld ?_
  case hyz4 => (intro w hSw; (try dsimp only at hSw); go_simp; (try with_reducible rfl))
  try simp only [Act.put, List.setIfInBounds_toArray, List.set_cons_zero, List.set_cons_succ]
  refine wpAnyH_take (i := 5) (oi := { dst := some 87, op := Op.fieldAddr 23 (Operand.tmp 86) 1, type := 0, pos := "ref.go:27", after := #[{ on := 4, ground := Ground.data }], guard := none }) (v := ?vz5) rfl (by kernel_rfl) (by kernel_rfl) (by kernel_rfl) (fun _ _ _ h => h) (Or.inl ⟨by rfl, ?hyz5⟩) hHeld ?_
  case hyz5 => (intro w hSw; (try dsimp only at hSw); go_simp; (try with_reducible rfl))
  try simp only [Act.put, List.setIfInBounds_toArray, List.set_cons_zero, List.set_cons_succ]
  refine wpAnyH_take (i := 6) (oi := { dst := some 88, op := Op.load 3 (Operand.tmp 87), type := 3, pos := "ref.go:27", after := #[{ on := 5, ground := Ground.data }], guard := none }) (v := ?vz6) rfl (by kernel_rfl) (by kernel_rfl) (by kernel_rfl) (fun _ _ _ h => h) (Or.inl ⟨by rfl, ?hyz6⟩) hHeld ?_
  case hyz6 => (intro w hSw; (try dsimp only at hSw); go_simp; (try with_reducible rfl))
  try simp only [Act.put, List.setIfInBounds_toArray, List.set_cons_zero, List.set_cons_succ]
  refine wpAnyH_take (i := 7) (oi := { dst := some 89, op := Op.binOp BinOp.geq 3 (Operand.tmp 83) (Operand.tmp 88) 3, type := 4, pos := "ref.go:27", after := #[{ on := 1, ground := Ground.data }, { on := 6, ground := Ground.data }], guard := none }) (v := ?vz7) rfl (by kernel_rfl) (by kernel_rfl) (by kernel_rfl) (fun _ _ _ h => h) (Or.inl ⟨by rfl, ?hyz7⟩) hHeld ?_
  case hyz7 => (intro w hSw; (try dsimp only at hSw); go_simp; (try with_reducible rfl))
  try simp only [Act.put, List.setIfInBounds_toArray, List.set_cons_zero, List.set_cons_succ]
  refine wpAnyH_done (by kernel_rfl) ?_ _
  have HC4 := Lib.hid HC3.out.drew
  clear hHeld h1 h2 h3 h4 HC3 a0 a1 a2 a3 a4 a5 a6 a7 a8 af
  generalize W0.drew = W1 at *
  obtain ⟨a0, a1, a2, a3, a4, a5, a6, a7, a8, af⟩ := HC4.out.cells
  dsimp only at a0 a1 a2 a3 a4 a5 a6 a7 a8
  have HCe := Lib.hid ((HC4.out.setM 0).setL 11)
  obtain ⟨b0, b1, b2, b3, b4, b5, b6, b7, b8, bf⟩ := HC4.out.cells
  dsimp only at b0 b1 b2 b3 b4 b5 b6 b7 b8
  obtain ⟨d0, d1, d2, d3, d4, d5, d6, d7, d8, df⟩ := HCe.out.cells
  dsimp only at d0 d1 d2 d3 d4 d5 d6 d7 d8
  obtain ⟨c0, c1, c2, c3, c4, c5, c6, c7, c8, cf⟩ := HCe.out.cellsY
  obtain ⟨s0, s1, s2, s3, s4, s5, s6, s7, s8, sf⟩ := (HCe.out.last ⟨11, j, c, 0, 0, p, fd, tl, cy⟩).cells
  dsimp only at s0 s1 s2 s3 s4 s5 s6 s7 s8
  clear HC4 a0 a1 a2 a3 a4 a5 a6 a7 a8 af
  go_wp2_with fail
  refine bodyPost_ret (v := .tuple #[(colV 11 j c 0 0 p fd tl cy), .bool false, .bool true]) (by simp [results, Tryz.f29, go_sem, s0, s1, s2, s3, s4, s5, s6, s7, s8]) rfl ?_
  exact ⟨rfl, HCe.out.fin ⟨11, j, c, 0, 0, p, fd, tl, cy⟩⟩
set_option maxHeartbeats 3200000 in
theorem rb16_same {w : World} {X : Nat} {va : Option Addr} {cap N : Nat} {C : Cf} {s : Dy} (hH : RAt w X va cap N C s) (hL : ∀ R, va = some ⟨R, 0, none⟩ → R < w.heap.size) (hr : Right C.a C.b C.c C.d)  (j c m p : Int) (fd : Bool) (tl cy : Int) (v : Nat) (hv : v < 18446744073709551616) (u : Nat) (_ : u < 18446744073709551616) (hT : z5 C.n 1 (inP C.a C.b C.c C.d m) (s.f (inP C.a C.b C.c C.d m).toNat) = (u : Int)) (hs : u = v) :
    Calls Tryz.prog 29 #[.pointer (some ⟨X, 0, none⟩), (colV 16 j c m (v : Int) p fd tl cy)] w (RP w X va cap N C (s.act C 1 (inP C.a C.b C.c C.d m) 0 0) (.tuple #[(colV 16 j c m (u : Int) p fd tl cy), .bool false, .bool true])) := by
  have HC0 := Lib.hid (ColR.start hH hL ⟨16, j, c, m, (v : Int), p, fd, tl, cy⟩)
  have HA : Hid (∀ W, RAt W X va cap N C s → Calls Tryz.prog 56 #[.pointer (some ⟨X, 0, none⟩), .int .i64 m] W fun e w' => e = .returned (.int .i64 (inP C.a C.b C.c C.d m)) ∧ Below W.heap.size W w') := Lib.hid (fun W hW => rIn_c (w := W) hW hr m)
  have HD : Hid (∀ W, RAt W X va cap N C s → (∀ R, va = some ⟨R, 0, none⟩ → R < W.heap.size) → Calls Tryz.prog 48 #[.pointer (some ⟨X, 0, none⟩), .int .i64 (inP C.a C.b C.c C.d m)] W (RP W X va cap N C (s.act C 1 (inP C.a C.b C.c C.d m) 0 0) (.int .u64 (z5 C.n 1 (inP C.a C.b C.c C.d m) (s.f ((inP C.a C.b C.c C.d m)).toNat))))) := Lib.hid (fun W hW hl => rLoad_c (w := W) hW hl (inP C.a C.b C.c C.d m))
  generalize (s.act C 1 (inP C.a C.b C.c C.d m) 0 0) = s' at *
  generalize (z5 C.n 1 (inP C.a C.b C.c C.d m) (s.f ((inP C.a C.b C.c C.d m)).toNat)) = T at *
  generalize (inP C.a C.b C.c C.d m) = P at *
  subst hT
  subst hs
  clear hH hL hr hv
  obtain ⟨a0, a1, a2, a3, a4, a5, a6, a7, a8, af⟩ := HC0.out.cells
  dsimp only at a0 a1 a2 a3 a4 a5 a6 a7 a8
  go_enter Tryz.func29, Tryz.ntmps29
  go_wp2_with fail
  refine (HA.out _ HC0.out.hand).mono ?_
  rintro e V1 ⟨rfl, hb⟩
  have HC1 := Lib.hid (HC0.out.below hb)
  clear HC0
  clear hb
  clear HA a0 a1 a2 a3 a4 a5 a6 a7 a8 af
  obtain ⟨a0, a1, a2, a3, a4, a5, a6, a7, a8, af⟩ := HC1.out.cells
  dsimp only at a0 a1 a2 a3 a4 a5 a6 a7 a8
  go_wp2_with fail
  refine (HD.out _ HC1.out.hand HC1.out.ltR).mono ?_
  rintro e V2 ⟨rfl, hF, hs⟩
  have HC2 := Lib.hid (HC1.out.handed hF hs)
  clear HC1 hF hs
  clear HD a0 a1 a2 a3 a4 a5 a6 a7 a8 af
  obtain ⟨a0, a1, a2, a3, a4, a5, a6, a7, a8, af⟩ := HC2.out.cells
  dsimp only at a0 a1 a2 a3 a4 a5 a6 a7 a8
  have HCe := Lib.hid ((HC2.out.setA (u : Int)).setL 16)
  obtain ⟨b0, b1, b2, b3, b4, b5, b6, b7, b8, bf⟩ := HC2.out.cells
  dsimp only at b0 b1 b2 b3 b4 b5 b6 b7 b8
  obtain ⟨d0, d1, d2, d3, d4, d5, d6, d7, d8, df⟩ := HCe.out.cells
  dsimp only at d0 d1 d2 d3 d4 d5 d6 d7 d8
  obtain ⟨c0, c1, c2, c3, c4, c5, c6, c7, c8, cf⟩ := HCe.out.cellsY
  obtain ⟨s0, s1, s2, s3, s4, s5, s6, s7, s8, sf⟩ := (HCe.out.last ⟨16, j, c, m, (u : Int), p, fd, tl, cy⟩).cells
  dsimp only at s0 s1 s2 s3 s4 s5 s6 s7 s8
  clear HC2 a0 a1 a2 a3 a4 a5 a6 a7 a8 af
  go_wp2_with fail
  refine bodyPost_ret (v := .tuple #[(colV 16 j c m (u : Int) p fd tl cy), .bool false, .bool true]) (by simp [results, Tryz.f29, go_sem, s0, s1, s2, s3, s4, s5, s6, s7, s8]) rfl ?_
  exact ⟨rfl, HCe.out.fin ⟨16, j, c, m, (u : Int), p, fd, tl, cy⟩⟩
set_option maxHeartbeats 3200000 in
theorem rb16_wait {w : World} {X : Nat} {va : Option Addr} {cap N : Nat} {C : Cf} {s : Dy} (hH : RAt w X va cap N C s) (hL : ∀ R, va = some ⟨R, 0, none⟩ → R < w.heap.size) (hr : Right C.a C.b C.c C.d)  (j c m p : Int) (fd : Bool) (tl cy : Int) (v : Nat) (_ : v < 18446744073709551616) (u : Nat) (hu6 : u < 18446744073709551616) (hT : z5 C.n 1 (inP C.a C.b C.c C.d m) (s.f (inP C.a C.b C.c C.d m).toNat) = (u : Int)) (hs : u % 4 = 3) (hv2 : ¬ u = v) :
    Calls Tryz.prog 29 #[.pointer (some ⟨X, 0, none⟩), (colV 16 j c m (v : Int) p fd tl cy)] w (RP w X va cap N C (s.act C 1 (inP C.a C.b C.c C.d m) 0 0) (.tuple #[(colV 16 j c m (u : Int) p fd tl cy), .bool false, .bool true])) := by
  have HC0 := Lib.hid (ColR.start hH hL ⟨16, j, c, m, (v : Int), p, fd, tl, cy⟩)
  have HA : Hid (∀ W, RAt W X va cap N C s → Calls Tryz.prog 56 #[.pointer (some ⟨X, 0, none⟩), .int .i64 m] W fun e w' => e = .returned (.int .i64 (inP C.a C.b C.c C.d m)) ∧ Below W.heap.size W w') := Lib.hid (fun W hW => rIn_c (w := W) hW hr m)
  have HD : Hid (∀ W, RAt W X va cap N C s → (∀ R, va = some ⟨R, 0, none⟩ → R < W.heap.size) → Calls Tryz.prog 48 #[.pointer (some ⟨X, 0, none⟩), .int .i64 (inP C.a C.b C.c C.d m)] W (RP W X va cap N C (s.act C 1 (inP C.a C.b C.c C.d m) 0 0) (.int .u64 (z5 C.n 1 (inP C.a C.b C.c C.d m) (s.f ((inP C.a C.b C.c C.d m)).toNat))))) := Lib.hid (fun W hW hl => rLoad_c (w := W) hW hl (inP C.a C.b C.c C.d m))
  generalize (s.act C 1 (inP C.a C.b C.c C.d m) 0 0) = s' at *
  generalize (z5 C.n 1 (inP C.a C.b C.c C.d m) (s.f ((inP C.a C.b C.c C.d m)).toNat)) = T at *
  generalize (inP C.a C.b C.c C.d m) = P at *
  subst hT
  have ht : Int.tmod (u : Int) 4 = 3 := by rw [Int.tmod_eq_emod_of_nonneg (by omega)]; omega
  clear hs
  have hq : ((u : Int) == (v : Int)) = false := by simp; omega
  clear hv2
  clear hH hL hr hu6
  obtain ⟨a0, a1, a2, a3, a4, a5, a6, a7, a8, af⟩ := HC0.out.cells
  dsimp only at a0 a1 a2 a3 a4 a5 a6 a7 a8
  go_enter Tryz.func29, Tryz.ntmps29
  go_wp2_with fail
  refine (HA.out _ HC0.out.hand).mono ?_
  rintro e V1 ⟨rfl, hb⟩
  have HC1 := Lib.hid (HC0.out.below hb)
  clear HC0
  clear hb
  clear HA a0 a1 a2 a3 a4 a5 a6 a7 a8 af
  obtain ⟨a0, a1, a2, a3, a4, a5, a6, a7, a8, af⟩ := HC1.out.cells
  dsimp only at a0 a1 a2 a3 a4 a5 a6 a7 a8
  go_wp2_with fail
  refine (HD.out _ HC1.out.hand HC1.out.ltR).mono ?_
  rintro e V2 ⟨rfl, hF, hs⟩
  have HC2 := Lib.hid (HC1.out.handed hF hs)
  clear HC1 hF hs
  clear HD a0 a1 a2 a3 a4 a5 a6 a7 a8 af
  obtain ⟨a0, a1, a2, a3, a4, a5, a6, a7, a8, af⟩ := HC2.out.cells
  dsimp only at a0 a1 a2 a3 a4 a5 a6 a7 a8
  have HCe := Lib.hid ((HC2.out.setA (u : Int)).setL 16)
  obtain ⟨b0, b1, b2, b3, b4, b5, b6, b7, b8, bf⟩ := HC2.out.cells
  dsimp only at b0 b1 b2 b3 b4 b5 b6 b7 b8
  obtain ⟨d0, d1, d2, d3, d4, d5, d6, d7, d8, df⟩ := HCe.out.cells
  dsimp only at d0 d1 d2 d3 d4 d5 d6 d7 d8
  obtain ⟨c0, c1, c2, c3, c4, c5, c6, c7, c8, cf⟩ := HCe.out.cellsY
  obtain ⟨s0, s1, s2, s3, s4, s5, s6, s7, s8, sf⟩ := (HCe.out.last ⟨16, j, c, m, (u : Int), p, fd, tl, cy⟩).cells
  dsimp only at s0 s1 s2 s3 s4 s5 s6 s7 s8
  clear HC2 a0 a1 a2 a3 a4 a5 a6 a7 a8 af
  go_wp2_with fail
  refine bodyPost_ret (v := .tuple #[(colV 16 j c m (u : Int) p fd tl cy), .bool false, .bool true]) (by simp [results, Tryz.f29, go_sem, s0, s1, s2, s3, s4, s5, s6, s7, s8]) rfl ?_
  exact ⟨rfl, HCe.out.fin ⟨16, j, c, m, (u : Int), p, fd, tl, cy⟩⟩
set_option maxHeartbeats 3200000 in
theorem rb16_more {w : World} {X : Nat} {va : Option Addr} {cap N : Nat} {C : Cf} {s : Dy} (hH : RAt w X va cap N C s) (hL : ∀ R, va = some ⟨R, 0, none⟩ → R < w.heap.size) (hr : Right C.a C.b C.c C.d)  (j c m p : Int) (fd : Bool) (tl cy : Int) (hm : -1000000000000 ≤ m ∧ m ≤ 1000000000000) (v : Nat) (_ : v < 18446744073709551616) (u : Nat) (hu6 : u < 18446744073709551616) (hT : z5 C.n 1 (inP C.a C.b C.c C.d m) (s.f (inP C.a C.b C.c C.d m).toNat) = (u : Int)) (hs : ¬ u % 4 = 3) (hv2 : ¬ u = v) (hn : m + 1 < C.b) :
    Calls Tryz.prog 29 #[.pointer (some ⟨X, 0, none⟩), (colV 16 j c m (v : Int) p fd tl cy)] w (RP w X va cap N C (s.act C 1 (inP C.a C.b C.c C.d m) 0 0) (.tuple #[(colV 10 j c (m + 1) 0 p fd tl cy), .bool false, .bool true])) := by
  have HC0 := Lib.hid (ColR.start hH hL ⟨16, j, c, m, (v : Int), p, fd, tl, cy⟩)
  have HA : Hid (∀ W, RAt W X va cap N C s → Calls Tryz.prog 56 #[.pointer (some ⟨X, 0, none⟩), .int .i64 m] W fun e w' => e = .returned (.int .i64 (inP C.a C.b C.c C.d m)) ∧ Below W.heap.size W w') := Lib.hid (fun W hW => rIn_c (w := W) hW hr m)
  have HD : Hid (∀ W, RAt W X va cap N C s → (∀ R, va = some ⟨R, 0, none⟩ → R < W.heap.size) → Calls Tryz.prog 48 #[.pointer (some ⟨X, 0, none⟩), .int .i64 (inP C.a C.b C.c C.d m)] W (RP W X va cap N C (s.act C 1 (inP C.a C.b C.c C.d m) 0 0) (.int .u64 (z5 C.n 1 (inP C.a C.b C.c C.d m) (s.f ((inP C.a C.b C.c C.d m)).toNat))))) := Lib.hid (fun W hW hl => rLoad_c (w := W) hW hl (inP C.a C.b C.c C.d m))
  generalize (s.act C 1 (inP C.a C.b C.c C.d m) 0 0) = s' at *
  generalize (z5 C.n 1 (inP C.a C.b C.c C.d m) (s.f ((inP C.a C.b C.c C.d m)).toNat)) = T at *
  generalize (inP C.a C.b C.c C.d m) = P at *
  subst hT
  obtain ⟨t, ht⟩ : ∃ t : Int, Int.tmod (u : Int) 4 = t := ⟨_, rfl⟩
  have htt : t = (u : Int) % 4 := by rw [← ht, Int.tmod_eq_emod_of_nonneg (by omega)]
  have hne3 : (t == 3) = false := by simp; omega
  clear hs htt
  have hq : ((u : Int) == (v : Int)) = false := by simp; omega
  clear hv2
  have hw1 : IntKind.i64.wrap (m + 1) = m + 1 := IntWalk.i64_in _ (by omega)
  have hr0 : 1 ≤ C.b ∧ C.b ≤ 63 := by unfold Right at hr; omega
  have hge : decide (C.b ≤ m + 1) = false := decide_eq_false (by omega)
  clear hH hL hr hu6 hm hn hr0
  obtain ⟨a0, a1, a2, a3, a4, a5, a6, a7, a8, af⟩ := HC0.out.cells
  dsimp only at a0 a1 a2 a3 a4 a5 a6 a7 a8
  go_enter Tryz.func29, Tryz.ntmps29
  go_wp2_with fail
  refine (HA.out _ HC0.out.hand).mono ?_
  rintro e V1 ⟨rfl, hb⟩
  have HC1 := Lib.hid (HC0.out.below hb)
  clear HC0
  clear hb
  clear HA a0 a1 a2 a3 a4 a5 a6 a7 a8 af
  obtain ⟨a0, a1, a2, a3, a4, a5, a6, a7, a8, af⟩ := HC1.out.cells
  dsimp only at a0 a1 a2 a3 a4 a5 a6 a7 a8
  go_wp2_with fail
  refine (HD.out _ HC1.out.hand HC1.out.ltR).mono ?_
  rintro e V2 ⟨rfl, hF, hs⟩
  have HC2 := Lib.hid (HC1.out.handed hF hs)
  clear HC1 hF hs
  clear HD a0 a1 a2 a3 a4 a5 a6 a7 a8 af
  obtain ⟨a0, a1, a2, a3, a4, a5, a6, a7, a8, af⟩ := HC2.out.cells
  dsimp only at a0 a1 a2 a3 a4 a5 a6 a7 a8
  obtain ⟨_, ⟨h1, h2, h3, h4⟩, _⟩ := HC2.out.hand.cells
  go_upto_region 14 with fail
  clear h1 h2 h3 h4
  have HC3 := Lib.hid (((HC2.out.setA 0).setL 10).setM (m + 1))
  clear HC2 a0 a1 a2 a3 a4 a5 a6 a7 a8 af
  obtain ⟨a0, a1, a2, a3, a4, a5, a6, a7, a8, af⟩ := HC3.out.cells
  dsimp only at a0 a1 a2 a3 a4 a5 a6 a7 a8
  obtain ⟨_, ⟨h1, h2, h3, h4⟩, _⟩ := HC3.out.hand.cells
  generalize (((V2.setCell ⟨w.heap.size, 4, none⟩ (.int .u64 0)).setCell ⟨w.heap.size, 0, none⟩ (.int .i64 10)).setCell ⟨w.heap.size, 3, none⟩ (.int .i64 (m + 1))) = W0 at *
  refine wp_region_held_drew (S := (fun w' => w'.cell? ⟨X, 1, none⟩ = some (.int .i64 C.b) ∧ w'.cell? ⟨w.heap.size, 3, none⟩ = some (.int .i64 (m + 1)))) (by kernel_rfl) ?_ (fun hHeld => ?_)
  · exact ⟨h2, a3⟩
  refine wpAnyH_take (i := 0) (oi := { dst := some 82, op := Op.fieldAddr 28 (Operand.tmp 3) 3, type := 0, pos := "ref.go:27", after := #[], guard := none }) (v := ?vz0) rfl (by kernel_rfl) (by kernel_rfl) (by kernel_rfl) (fun _ _ _ h => h) (Or.inl ⟨by rfl, ?hyz0⟩) hHeld ?_
  case hyz0 => (intro w hSw; (try dsimp only at hSw); go_simp; (try with_reducible rfl))
  try simp only [Act.put, List.setIfInBounds_toArray, List.set_cons_zero, List.set_cons_succ]
  refine wpAnyH_take (i := 1) (oi := { dst := some 83, op := Op.load 3 (Operand.tmp 82), type := 3, pos := "ref.go:27", after := #[{ on := 0, ground := Ground.data }], guard := none }) (v := ?vz1) rfl (by kernel_rfl) (by kernel_rfl) (by kernel_rfl) (fun _ _ _ h => h) (Or.inl ⟨by rfl, ?hyz1⟩) hHeld ?_
  case hyz1 => (intro w hSw; (try dsimp only at hSw); go_simp; (try with_reducible rfl))
  try simp only [Act.put, List.setIfInBounds_toArray, List.set_cons_zero, List.set_cons_succ]
  refine wpAnyH_take (i := 2) (oi := { dst := some 84, op := Op.move (Operand.tmp 0), type := 33, pos := "ref.go:27", after := #[], guard := none }) (v := ?vz2) rfl (by kernel_rfl) (by kernel_rfl) (by kernel_rfl) (fun _ _ _ h => h) (Or.inl ⟨by rfl, ?hyz2⟩) hHeld ?_
  case hyz2 => (intro w hSw; (try dsimp only at hSw); go_simp; (try with_reducible rfl))
  try simp only [Act.put, List.setIfInBounds_toArray, List.set_cons_zero, List.set_cons_succ]
  refine wpAnyH_take (i := 3) (oi := { dst := some 85, op := Op.nilCheck (Operand.tmp 84), type := 0, pos := "ref.go:27", after := #[{ on := 2, ground := Ground.data }], guard := none }) (v := ?vz3) rfl (by kernel_rfl) (by kernel_rfl) (by kernel_rfl) (fun _ _ _ h => h) (Or.inl ⟨by rfl, ?hyz3⟩) hHeld ?_
  case hyz3 => (intro w hSw; (try dsimp only at hSw); go_simp; (try with_reducible rfl))
  try simp only [Act.put, List.setIfInBounds_toArray, List.set_cons_zero, List.set_cons_succ]
  refine wpAnyH_take (i := 4) (oi := { dst := some 86, op := Op.fieldAddr 59 (Operand.tmp 85) 0, type := 0, pos := "ref.go:27", after := #[{ on := 3, ground := Ground.data }], guard := none }) (v := ?vz4) rfl (by kernel_rfl) (by kernel_rfl) (by kernel_rfl) (fun _ _ _ h => h) (Or.inl ⟨by rfl, ?hyz4⟩) hHeld ?_
  case hyz4 => (intro w hSw; (try dsimp only at hSw); go_simp; (try with_reducible rfl))
  try simp only [Act.put, List.setIfInBounds_toArray, List.set_cons_zero, List.set_cons_succ]
  refine wpAnyH_take (i := 5) (oi := { dst := some 87, op := Op.fieldAddr 23 (Operand.tmp 86) 1, type := 0, pos := "ref.go:27", after := #[{ on := 4, ground := Ground.data }], guard := none }) (v := ?vz5) rfl (by kernel_rfl) (by kernel_rfl) (by kernel_rfl) (fun _ _ _ h => h) (Or.inl ⟨by rfl, ?hyz5⟩) hHeld ?_
  case hyz5 => (intro w hSw; (try dsimp only at hSw); go_simp; (try with_reducible rfl))
  try simp only [Act.put, List.setIfInBounds_toArray, List.set_cons_zero, List.set_cons_succ]
  refine wpAnyH_take (i := 6) (oi := { dst := some 88, op := Op.load 3 (Operand.tmp 87), type := 3, pos := "ref.go:27", after := #[{ on := 5, ground := Ground.data }], guard := none }) (v := ?vz6) rfl (by kernel_rfl) (by kernel_rfl) (by kernel_rfl) (fun _ _ _ h => h) (Or.inl ⟨by rfl, ?hyz6⟩) hHeld ?_
  case hyz6 => (intro w hSw; (try dsimp only at hSw); go_simp; (try with_reducible rfl))
  try simp only [Act.put, List.setIfInBounds_toArray, List.set_cons_zero, List.set_cons_succ]
  refine wpAnyH_take (i := 7) (oi := { dst := some 89, op := Op.binOp BinOp.geq 3 (Operand.tmp 83) (Operand.tmp 88) 3, type := 4, pos := "ref.go:27", after := #[{ on := 1, ground := Ground.data }, { on := 6, ground := Ground.data }], guard := none }) (v := ?vz7) rfl (by kernel_rfl) (by kernel_rfl) (by kernel_rfl) (fun _ _ _ h => h) (Or.inl ⟨by rfl, ?hyz7⟩) hHeld ?_
  case hyz7 => (intro w hSw; (try dsimp only at hSw); go_simp; (try with_reducible rfl))
  try simp only [Act.put, List.setIfInBounds_toArray, List.set_cons_zero, List.set_cons_succ]
  refine wpAnyH_done (by kernel_rfl) ?_ _
  have HC4 := Lib.hid HC3.out.drew
  clear hHeld h1 h2 h3 h4 HC3 a0 a1 a2 a3 a4 a5 a6 a7 a8 af
  generalize W0.drew = W1 at *
  obtain ⟨a0, a1, a2, a3, a4, a5, a6, a7, a8, af⟩ := HC4.out.cells
  dsimp only at a0 a1 a2 a3 a4 a5 a6 a7 a8
  have HCe := Lib.hid HC4.out
  obtain ⟨d0, d1, d2, d3, d4, d5, d6, d7, d8, df⟩ := HCe.out.cells
  dsimp only at d0 d1 d2 d3 d4 d5 d6 d7 d8
  obtain ⟨c0, c1, c2, c3, c4, c5, c6, c7, c8, cf⟩ := HCe.out.cellsY
  obtain ⟨s0, s1, s2, s3, s4, s5, s6, s7, s8, sf⟩ := (HCe.out.last ⟨10, j, c, (m + 1), 0, p, fd, tl, cy⟩).cells
  dsimp only at s0 s1 s2 s3 s4 s5 s6 s7 s8
  clear HC4 a0 a1 a2 a3 a4 a5 a6 a7 a8 af
  go_wp2_with fail
  refine bodyPost_ret (v := .tuple #[(colV 10 j c (m + 1) 0 p fd tl cy), .bool false, .bool true]) (by simp [results, Tryz.f29, go_sem, s0, s1, s2, s3, s4, s5, s6, s7, s8]) rfl ?_
  exact ⟨rfl, HCe.out.fin ⟨10, j, c, (m + 1), 0, p, fd, tl, cy⟩⟩
set_option maxHeartbeats 3200000 in
theorem rb16_over {w : World} {X : Nat} {va : Option Addr} {cap N : Nat} {C : Cf} {s : Dy} (hH : RAt w X va cap N C s) (hL : ∀ R, va = some ⟨R, 0, none⟩ → R < w.heap.size) (hr : Right C.a C.b C.c C.d)  (j c m p : Int) (fd : Bool) (tl cy : Int) (hm : -1000000000000 ≤ m ∧ m ≤ 1000000000000) (v : Nat) (_ : v < 18446744073709551616) (u : Nat) (hu6 : u < 18446744073709551616) (hT : z5 C.n 1 (inP C.a C.b C.c C.d m) (s.f (inP C.a C.b C.c C.d m).toNat) = (u : Int)) (hs : ¬ u % 4 = 3) (hv2 : ¬ u = v) (hn : ¬ m + 1 < C.b) :
    Calls Tryz.prog 29 #[.pointer (some ⟨X, 0, none⟩), (colV 16 j c m (v : Int) p fd tl cy)] w (RP w X va cap N C (s.act C 1 (inP C.a C.b C.c C.d m) 0 0) (.tuple #[(colV 11 j c 0 0 p fd tl cy), .bool false, .bool true])) := by
  have HC0 := Lib.hid (ColR.start hH hL ⟨16, j, c, m, (v : Int), p, fd, tl, cy⟩)
  have HA : Hid (∀ W, RAt W X va cap N C s → Calls Tryz.prog 56 #[.pointer (some ⟨X, 0, none⟩), .int .i64 m] W fun e w' => e = .returned (.int .i64 (inP C.a C.b C.c C.d m)) ∧ Below W.heap.size W w') := Lib.hid (fun W hW => rIn_c (w := W) hW hr m)
  have HD : Hid (∀ W, RAt W X va cap N C s → (∀ R, va = some ⟨R, 0, none⟩ → R < W.heap.size) → Calls Tryz.prog 48 #[.pointer (some ⟨X, 0, none⟩), .int .i64 (inP C.a C.b C.c C.d m)] W (RP W X va cap N C (s.act C 1 (inP C.a C.b C.c C.d m) 0 0) (.int .u64 (z5 C.n 1 (inP C.a C.b C.c C.d m) (s.f ((inP C.a C.b C.c C.d m)).toNat))))) := Lib.hid (fun W hW hl => rLoad_c (w := W) hW hl (inP C.a C.b C.c C.d m))
  generalize (s.act C 1 (inP C.a C.b C.c C.d m) 0 0) = s' at *
  generalize (z5 C.n 1 (inP C.a C.b C.c C.d m) (s.f ((inP C.a C.b C.c C.d m)).toNat)) = T at *
  generalize (inP C.a C.b C.c C.d m) = P at *
  subst hT
  obtain ⟨t, ht⟩ : ∃ t : Int, Int.tmod (u : Int) 4 = t := ⟨_, rfl⟩
  have htt : t = (u : Int) % 4 := by rw [← ht, Int.tmod_eq_emod_of_nonneg (by omega)]
  have hne3 : (t == 3) = false := by simp; omega
  clear hs htt
  have hq : ((u : Int) == (v : Int)) = false := by simp; omega
  clear hv2
  have hw1 : IntKind.i64.wrap (m + 1) = m + 1 := IntWalk.i64_in _ (by omega)
  have hr0 : 1 ≤ C.b ∧ C.b ≤ 63 := by unfold Right at hr; omega
  have hge : decide (C.b ≤ m + 1) = true := decide_eq_true (by omega)
  clear hH hL hr hu6 hm hn hr0
  obtain ⟨a0, a1, a2, a3, a4, a5, a6, a7, a8, af⟩ := HC0.out.cells
  dsimp only at a0 a1 a2 a3 a4 a5 a6 a7 a8
  go_enter Tryz.func29, Tryz.ntmps29
  go_wp2_with fail
  refine (HA.out _ HC0.out.hand).mono ?_
  rintro e V1 ⟨rfl, hb⟩
  have HC1 := Lib.hid (HC0.out.below hb)
  clear HC0
  clear hb
  clear HA a0 a1 a2 a3 a4 a5 a6 a7 a8 af
  obtain ⟨a0, a1, a2, a3, a4, a5, a6, a7, a8, af⟩ := HC1.out.cells
  dsimp only at a0 a1 a2 a3 a4 a5 a6 a7 a8
  go_wp2_with fail
  refine (HD.out _ HC1.out.hand HC1.out.ltR).mono ?_
  rintro e V2 ⟨rfl, hF, hs⟩
  have HC2 := Lib.hid (HC1.out.handed hF hs)
  clear HC1 hF hs
  clear HD a0 a1 a2 a3 a4 a5 a6 a7 a8 af
  obtain ⟨a0, a1, a2, a3, a4, a5, a6, a7, a8, af⟩ := HC2.out.cells
  dsimp only at a0 a1 a2 a3 a4 a5 a6 a7 a8
  obtain ⟨_, ⟨h1, h2, h3, h4⟩, _⟩ := HC2.out.hand.cells
  go_upto_region 14 with fail
  clear h1 h2 h3 h4
  have HC3 := Lib.hid (((HC2.out.setA 0).setL 10).setM (m + 1))
  clear HC2 a0 a1 a2 a3 a4 a5 a6 a7 a8 af
  obtain ⟨a0, a1, a2, a3, a4, a5, a6, a7, a8, af⟩ := HC3.out.cells
  dsimp only at a0 a1 a2 a3 a4 a5 a6 a7 a8
  obtain ⟨_, ⟨h1, h2, h3, h4⟩, _⟩ := HC3.out.hand.cells
  generalize (((V2.setCell ⟨w.heap.size, 4, none⟩ (.int .u64 0)).setCell ⟨w.heap.size, 0, none⟩ (.int .i64 10)).setCell ⟨w.heap.size, 3, none⟩ (.int .i64 (m + 1))) = W0 at *
  refine wp_region_held_drew (S := (fun w' => w'.cell? ⟨X, 1, none⟩ = some (.int .i64 C.b) ∧ w'.cell? ⟨w.heap.size, 3, none⟩ = some (.int .i64 (m + 1)))) (by kernel_rfl) ?_ (fun hHeld => ?_)
  · exact ⟨h2, a3⟩
  refine wpAnyH_take (i := 0) (oi := { dst := some 82, op := Op.fieldAddr 28 (Operand.tmp 3) 3, type := 0, pos := "ref.go:27", after := #[], guard := none }) (v := ?vz0) rfl (by kernel_rfl) (by kernel_rfl) (by kernel_rfl) (fun _ _ _ h => h) (Or.inl ⟨by rfl, ?hyz0⟩) hHeld ?_
  case hyz0 => (intro w hSw; (try dsimp only at hSw); go_simp; (try with_reducible rfl))
  try simp only [Act.put, List.setIfInBounds_toArray, List.set_cons_zero, List.set_cons_succ]
  refine wpAnyH_take (i := 1) (oi := { dst := some 83, op := Op.load 3 (Operand.tmp 82), type := 3, pos := "ref.go:27", after := #[{ on := 0, ground := Ground.data }], guard := none }) (v := ?vz1) rfl (by kernel_rfl) (by kernel_rfl) (by kernel_rfl) (fun _ _ _ h => h) (Or.inl ⟨by rfl, ?hyz1⟩) hHeld ?_
  case hyz1 => (intro w hSw; (try dsimp only at hSw); go_simp; (try with_reducible rfl))
  try simp only [Act.put, List.setIfInBounds_toArray, List.set_cons_zero, List.set_cons_succ]
  refine wpAnyH_take (i := 2) (oi := { dst := some 84, op := Op.move (Operand.tmp 0), type := 33, pos := "ref.go:27", after := #[], guard := none }) (v := ?vz2) rfl (by kernel_rfl) (by kernel_rfl) (by kernel_rfl) (fun _ _ _ h => h) (Or.inl ⟨by rfl, ?hyz2⟩) hHeld ?_
  case hyz2 => (intro w hSw; (try dsimp only at hSw); go_simp; (try with_reducible rfl))
  try simp only [Act.put, List.setIfInBounds_toArray, List.set_cons_zero, List.set_cons_succ]
  refine wpAnyH_take (i := 3) (oi := { dst := some 85, op := Op.nilCheck (Operand.tmp 84), type := 0, pos := "ref.go:27", after := #[{ on := 2, ground := Ground.data }], guard := none }) (v := ?vz3) rfl (by kernel_rfl) (by kernel_rfl) (by kernel_rfl) (fun _ _ _ h => h) (Or.inl ⟨by rfl, ?hyz3⟩) hHeld ?_
  case hyz3 => (intro w hSw; (try dsimp only at hSw); go_simp; (try with_reducible rfl))
  try simp only [Act.put, List.setIfInBounds_toArray, List.set_cons_zero, List.set_cons_succ]
  refine wpAnyH_take (i := 4) (oi := { dst := some 86, op := Op.fieldAddr 59 (Operand.tmp 85) 0, type := 0, pos := "ref.go:27", after := #[{ on := 3, ground := Ground.data }], guard := none }) (v := ?vz4) rfl (by kernel_rfl) (by kernel_rfl) (by kernel_rfl) (fun _ _ _ h => h) (Or.inl ⟨by rfl, ?hyz4⟩) hHeld ?_
  case hyz4 => (intro w hSw; (try dsimp only at hSw); go_simp; (try with_reducible rfl))
  try simp only [Act.put, List.setIfInBounds_toArray, List.set_cons_zero, List.set_cons_succ]
  refine wpAnyH_take (i := 5) (oi := { dst := some 87, op := Op.fieldAddr 23 (Operand.tmp 86) 1, type := 0, pos := "ref.go:27", after := #[{ on := 4, ground := Ground.data }], guard := none }) (v := ?vz5) rfl (by kernel_rfl) (by kernel_rfl) (by kernel_rfl) (fun _ _ _ h => h) (Or.inl ⟨by rfl, ?hyz5⟩) hHeld ?_
  case hyz5 => (intro w hSw; (try dsimp only at hSw); go_simp; (try with_reducible rfl))
  try simp only [Act.put, List.setIfInBounds_toArray, List.set_cons_zero, List.set_cons_succ]
  refine wpAnyH_take (i := 6) (oi := { dst := some 88, op := Op.load 3 (Operand.tmp 87), type := 3, pos := "ref.go:27", after := #[{ on := 5, ground := Ground.data }], guard := none }) (v := ?vz6) rfl (by kernel_rfl) (by kernel_rfl) (by kernel_rfl) (fun _ _ _ h => h) (Or.inl ⟨by rfl, ?hyz6⟩) hHeld ?_
  case hyz6 => (intro w hSw; (try dsimp only at hSw); go_simp; (try with_reducible rfl))
  try simp only [Act.put, List.setIfInBounds_toArray, List.set_cons_zero, List.set_cons_succ]
  refine wpAnyH_take (i := 7) (oi := { dst := some 89, op := Op.binOp BinOp.geq 3 (Operand.tmp 83) (Operand.tmp 88) 3, type := 4, pos := "ref.go:27", after := #[{ on := 1, ground := Ground.data }, { on := 6, ground := Ground.data }], guard := none }) (v := ?vz7) rfl (by kernel_rfl) (by kernel_rfl) (by kernel_rfl) (fun _ _ _ h => h) (Or.inl ⟨by rfl, ?hyz7⟩) hHeld ?_
  case hyz7 => (intro w hSw; (try dsimp only at hSw); go_simp; (try with_reducible rfl))
  try simp only [Act.put, List.setIfInBounds_toArray, List.set_cons_zero, List.set_cons_succ]
  refine wpAnyH_done (by kernel_rfl) ?_ _
  have HC4 := Lib.hid HC3.out.drew
  clear hHeld h1 h2 h3 h4 HC3 a0 a1 a2 a3 a4 a5 a6 a7 a8 af
  generalize W0.drew = W1 at *
  obtain ⟨a0, a1, a2, a3, a4, a5, a6, a7, a8, af⟩ := HC4.out.cells
  dsimp only at a0 a1 a2 a3 a4 a5 a6 a7 a8
  have HCe := Lib.hid ((HC4.out.setM 0).setL 11)
  obtain ⟨b0, b1, b2, b3, b4, b5, b6, b7, b8, bf⟩ := HC4.out.cells
  dsimp only at b0 b1 b2 b3 b4 b5 b6 b7 b8
  obtain ⟨d0, d1, d2, d3, d4, d5, d6, d7, d8, df⟩ := HCe.out.cells
  dsimp only at d0 d1 d2 d3 d4 d5 d6 d7 d8
  obtain ⟨c0, c1, c2, c3, c4, c5, c6, c7, c8, cf⟩ := HCe.out.cellsY
  obtain ⟨s0, s1, s2, s3, s4, s5, s6, s7, s8, sf⟩ := (HCe.out.last ⟨11, j, c, 0, 0, p, fd, tl, cy⟩).cells
  dsimp only at s0 s1 s2 s3 s4 s5 s6 s7 s8
  clear HC4 a0 a1 a2 a3 a4 a5 a6 a7 a8 af
  go_wp2_with fail
  refine bodyPost_ret (v := .tuple #[(colV 11 j c 0 0 p fd tl cy), .bool false, .bool true]) (by simp [results, Tryz.f29, go_sem, s0, s1, s2, s3, s4, s5, s6, s7, s8]) rfl ?_
  exact ⟨rfl, HCe.out.fin ⟨11, j, c, 0, 0, p, fd, tl, cy⟩⟩
set_option maxHeartbeats 3200000 in
theorem rb12_s1 {w : World} {X : Nat} {va : Option Addr} {cap N : Nat} {C : Cf} {s : Dy} (hH : RAt w X va cap N C s) (hL : ∀ R, va = some ⟨R, 0, none⟩ → R < w.heap.size) (hr : Right C.a C.b C.c C.d)  (j c m a p : Int) (fd : Bool) (tl cy : Int) (u : Nat) (hu6 : u < 18446744073709551616) (hT : z5 C.n 1 (inP C.a C.b C.c C.d m) (s.f (inP C.a C.b C.c C.d m).toNat) = (u : Int)) (hs : u % 4 = 1) :
    Calls Tryz.prog 29 #[.pointer (some ⟨X, 0, none⟩), (colV 12 j c m a p fd tl cy)] w (RP w X va cap N C (s.act C 1 (inP C.a C.b C.c C.d m) 0 0) (.tuple #[(colV 12 j c m a p fd tl cy), .bool false, .bool true])) := by
  have HC0 := Lib.hid (ColR.start hH hL ⟨12, j, c, m, a, p, fd, tl, cy⟩)
  have HA : Hid (∀ W, RAt W X va cap N C s → Calls Tryz.prog 56 #[.pointer (some ⟨X, 0, none⟩), .int .i64 m] W fun e w' => e = .returned (.int .i64 (inP C.a C.b C.c C.d m)) ∧ Below W.heap.size W w') := Lib.hid (fun W hW => rIn_c (w := W) hW hr m)
  have HD : Hid (∀ W, RAt W X va cap N C s → (∀ R, va = some ⟨R, 0, none⟩ → R < W.heap.size) → Calls Tryz.prog 48 #[.pointer (some ⟨X, 0, none⟩), .int .i64 (inP C.a C.b C.c C.d m)] W (RP W X va cap N C (s.act C 1 (inP C.a C.b C.c C.d m) 0 0) (.int .u64 (z5 C.n 1 (inP C.a C.b C.c C.d m) (s.f ((inP C.a C.b C.c C.d m)).toNat))))) := Lib.hid (fun W hW hl => rLoad_c (w := W) hW hl (inP C.a C.b C.c C.d m))
  generalize (s.act C 1 (inP C.a C.b C.c C.d m) 0 0) = s' at *
  generalize (z5 C.n 1 (inP C.a C.b C.c C.d m) (s.f ((inP C.a C.b C.c C.d m)).toNat)) = T at *
  generalize (inP C.a C.b C.c C.d m) = P at *
  subst hT
  have ht : Int.tmod (u : Int) 4 = 1 := by rw [Int.tmod_eq_emod_of_nonneg (by omega)]; omega
  clear hs
  clear hH hL hr hu6
  obtain ⟨a0, a1, a2, a3, a4, a5, a6, a7, a8, af⟩ := HC0.out.cells
  dsimp only at a0 a1 a2 a3 a4 a5 a6 a7 a8
  go_enter Tryz.func29, Tryz.ntmps29
  go_wp2_with fail
  refine (HA.out _ HC0.out.hand).mono ?_
  rintro e V1 ⟨rfl, hb⟩
  have HC1 := Lib.hid (HC0.out.below hb)
  clear HC0
  clear hb
  clear HA a0 a1 a2 a3 a4 a5 a6 a7 a8 af
  obtain ⟨a0, a1, a2, a3, a4, a5, a6, a7, a8, af⟩ := HC1.out.cells
  dsimp only at a0 a1 a2 a3 a4 a5 a6 a7 a8
  go_wp2_with fail
  refine (HD.out _ HC1.out.hand HC1.out.ltR).mono ?_
  rintro e V2 ⟨rfl, hF, hs⟩
  have HC2 := Lib.hid (HC1.out.handed hF hs)
  clear HC1 hF hs
  clear HD a0 a1 a2 a3 a4 a5 a6 a7 a8 af
  obtain ⟨a0, a1, a2, a3, a4, a5, a6, a7, a8, af⟩ := HC2.out.cells
  dsimp only at a0 a1 a2 a3 a4 a5 a6 a7 a8
  have HCe := Lib.hid HC2.out
  obtain ⟨d0, d1, d2, d3, d4, d5, d6, d7, d8, df⟩ := HCe.out.cells
  dsimp only at d0 d1 d2 d3 d4 d5 d6 d7 d8
  obtain ⟨c0, c1, c2, c3, c4, c5, c6, c7, c8, cf⟩ := HCe.out.cellsY
  obtain ⟨s0, s1, s2, s3, s4, s5, s6, s7, s8, sf⟩ := (HCe.out.last ⟨12, j, c, m, a, p, fd, tl, cy⟩).cells
  dsimp only at s0 s1 s2 s3 s4 s5 s6 s7 s8
  clear HC2 a0 a1 a2 a3 a4 a5 a6 a7 a8 af
  go_wp2_with fail
  refine bodyPost_ret (v := .tuple #[(colV 12 j c m a p fd tl cy), .bool false, .bool true]) (by simp [results, Tryz.f29, go_sem, s0, s1, s2, s3, s4, s5, s6, s7, s8]) rfl ?_
  exact ⟨rfl, HCe.out.fin ⟨12, j, c, m, a, p, fd, tl, cy⟩⟩
set_option maxHeartbeats 3200000 in
theorem rb12_s2 {w : World} {X : Nat} {va : Option Addr} {cap N : Nat} {C : Cf} {s : Dy} (hH : RAt w X va cap N C s) (hL : ∀ R, va = some ⟨R, 0, none⟩ → R < w.heap.size) (hr : Right C.a C.b C.c C.d)  (j c m a p : Int) (fd : Bool) (tl cy : Int) (u : Nat) (hu6 : u < 18446744073709551616) (hT : z5 C.n 1 (inP C.a C.b C.c C.d m) (s.f (inP C.a C.b C.c C.d m).toNat) = (u : Int)) (hs : u % 4 = 2) :
    Calls Tryz.prog 29 #[.pointer (some ⟨X, 0, none⟩), (colV 12 j c m a p fd tl cy)] w (RP w X va cap N C (s.act C 1 (inP C.a C.b C.c C.d m) 0 0) (.tuple #[(colV 12 j c m a p fd tl cy), .bool false, .bool true])) := by
  have HC0 := Lib.hid (ColR.start hH hL ⟨12, j, c, m, a, p, fd, tl, cy⟩)
  have HA : Hid (∀ W, RAt W X va cap N C s → Calls Tryz.prog 56 #[.pointer (some ⟨X, 0, none⟩), .int .i64 m] W fun e w' => e = .returned (.int .i64 (inP C.a C.b C.c C.d m)) ∧ Below W.heap.size W w') := Lib.hid (fun W hW => rIn_c (w := W) hW hr m)
  have HD : Hid (∀ W, RAt W X va cap N C s → (∀ R, va = some ⟨R, 0, none⟩ → R < W.heap.size) → Calls Tryz.prog 48 #[.pointer (some ⟨X, 0, none⟩), .int .i64 (inP C.a C.b C.c C.d m)] W (RP W X va cap N C (s.act C 1 (inP C.a C.b C.c C.d m) 0 0) (.int .u64 (z5 C.n 1 (inP C.a C.b C.c C.d m) (s.f ((inP C.a C.b C.c C.d m)).toNat))))) := Lib.hid (fun W hW hl => rLoad_c (w := W) hW hl (inP C.a C.b C.c C.d m))
  generalize (s.act C 1 (inP C.a C.b C.c C.d m) 0 0) = s' at *
  generalize (z5 C.n 1 (inP C.a C.b C.c C.d m) (s.f ((inP C.a C.b C.c C.d m)).toNat)) = T at *
  generalize (inP C.a C.b C.c C.d m) = P at *
  subst hT
  have ht : Int.tmod (u : Int) 4 = 2 := by rw [Int.tmod_eq_emod_of_nonneg (by omega)]; omega
  clear hs
  clear hH hL hr hu6
  obtain ⟨a0, a1, a2, a3, a4, a5, a6, a7, a8, af⟩ := HC0.out.cells
  dsimp only at a0 a1 a2 a3 a4 a5 a6 a7 a8
  go_enter Tryz.func29, Tryz.ntmps29
  go_wp2_with fail
  refine (HA.out _ HC0.out.hand).mono ?_
  rintro e V1 ⟨rfl, hb⟩
  have HC1 := Lib.hid (HC0.out.below hb)
  clear HC0
  clear hb
  clear HA a0 a1 a2 a3 a4 a5 a6 a7 a8 af
  obtain ⟨a0, a1, a2, a3, a4, a5, a6, a7, a8, af⟩ := HC1.out.cells
  dsimp only at a0 a1 a2 a3 a4 a5 a6 a7 a8
  go_wp2_with fail
  refine (HD.out _ HC1.out.hand HC1.out.ltR).mono ?_
  rintro e V2 ⟨rfl, hF, hs⟩
  have HC2 := Lib.hid (HC1.out.handed hF hs)
  clear HC1 hF hs
  clear HD a0 a1 a2 a3 a4 a5 a6 a7 a8 af
  obtain ⟨a0, a1, a2, a3, a4, a5, a6, a7, a8, af⟩ := HC2.out.cells
  dsimp only at a0 a1 a2 a3 a4 a5 a6 a7 a8
  have HCe := Lib.hid HC2.out
  obtain ⟨d0, d1, d2, d3, d4, d5, d6, d7, d8, df⟩ := HCe.out.cells
  dsimp only at d0 d1 d2 d3 d4 d5 d6 d7 d8
  obtain ⟨c0, c1, c2, c3, c4, c5, c6, c7, c8, cf⟩ := HCe.out.cellsY
  obtain ⟨s0, s1, s2, s3, s4, s5, s6, s7, s8, sf⟩ := (HCe.out.last ⟨12, j, c, m, a, p, fd, tl, cy⟩).cells
  dsimp only at s0 s1 s2 s3 s4 s5 s6 s7 s8
  clear HC2 a0 a1 a2 a3 a4 a5 a6 a7 a8 af
  go_wp2_with fail
  refine bodyPost_ret (v := .tuple #[(colV 12 j c m a p fd tl cy), .bool false, .bool true]) (by simp [results, Tryz.f29, go_sem, s0, s1, s2, s3, s4, s5, s6, s7, s8]) rfl ?_
  exact ⟨rfl, HCe.out.fin ⟨12, j, c, m, a, p, fd, tl, cy⟩⟩
set_option maxHeartbeats 3200000 in
theorem rb12_more {w : World} {X : Nat} {va : Option Addr} {cap N : Nat} {C : Cf} {s : Dy} (hH : RAt w X va cap N C s) (hL : ∀ R, va = some ⟨R, 0, none⟩ → R < w.heap.size) (hr : Right C.a C.b C.c C.d)  (j c m a p : Int) (fd : Bool) (tl cy : Int) (hm : -1000000000000 ≤ m ∧ m ≤ 1000000000000) (u : Nat) (hu6 : u < 18446744073709551616) (hT : z5 C.n 1 (inP C.a C.b C.c C.d m) (s.f (inP C.a C.b C.c C.d m).toNat) = (u : Int)) (hs : ¬ (u % 4 = 1 ∨ u % 4 = 2)) (hn : m + 1 < C.b) :
    Calls Tryz.prog 29 #[.pointer (some ⟨X, 0, none⟩), (colV 12 j c m a p fd tl cy)] w (RP w X va cap N C (s.act C 1 (inP C.a C.b C.c C.d m) 0 0) (.tuple #[(colV 12 j c (m + 1) a p fd tl cy), .bool false, .bool true])) := by
  have HC0 := Lib.hid (ColR.start hH hL ⟨12, j, c, m, a, p, fd, tl, cy⟩)
  have HA : Hid (∀ W, RAt W X va cap N C s → Calls Tryz.prog 56 #[.pointer (some ⟨X, 0, none⟩), .int .i64 m] W fun e w' => e = .returned (.int .i64 (inP C.a C.b C.c C.d m)) ∧ Below W.heap.size W w') := Lib.hid (fun W hW => rIn_c (w := W) hW hr m)
  have HD : Hid (∀ W, RAt W X va cap N C s → (∀ R, va = some ⟨R, 0, none⟩ → R < W.heap.size) → Calls Tryz.prog 48 #[.pointer (some ⟨X, 0, none⟩), .int .i64 (inP C.a C.b C.c C.d m)] W (RP W X va cap N C (s.act C 1 (inP C.a C.b C.c C.d m) 0 0) (.int .u64 (z5 C.n 1 (inP C.a C.b C.c C.d m) (s.f ((inP C.a C.b C.c C.d m)).toNat))))) := Lib.hid (fun W hW hl => rLoad_c (w := W) hW hl (inP C.a C.b C.c C.d m))
  generalize (s.act C 1 (inP C.a C.b C.c C.d m) 0 0) = s' at *
  generalize (z5 C.n 1 (inP C.a C.b C.c C.d m) (s.f ((inP C.a C.b C.c C.d m)).toNat)) = T at *
  generalize (inP C.a C.b C.c C.d m) = P at *
  subst hT
  obtain ⟨t, ht⟩ : ∃ t : Int, Int.tmod (u : Int) 4 = t := ⟨_, rfl⟩
  have htt : t = (u : Int) % 4 := by rw [← ht, Int.tmod_eq_emod_of_nonneg (by omega)]
  have hne1 : (t == 1) = false := by simp; omega
  have hne2 : (t == 2) = false := by simp; omega
  clear hs htt
  have hw1 : IntKind.i64.wrap (m + 1) = m + 1 := IntWalk.i64_in _ (by omega)
  have hr0 : 1 ≤ C.b ∧ C.b ≤ 63 := by unfold Right at hr; omega
  have hge : decide (C.b ≤ m + 1) = false := decide_eq_false (by omega)
  clear hH hL hr hu6 hm hn hr0
  obtain ⟨a0, a1, a2, a3, a4, a5, a6, a7, a8, af⟩ := HC0.out.cells
  dsimp only at a0 a1 a2 a3 a4 a5 a6 a7 a8
  go_enter Tryz.func29, Tryz.ntmps29
  go_wp2_with fail
  refine (HA.out _ HC0.out.hand).mono ?_
  rintro e V1 ⟨rfl, hb⟩
  have HC1 := Lib.hid (HC0.out.below hb)
  clear HC0
  clear hb
  clear HA a0 a1 a2 a3 a4 a5 a6 a7 a8 af
  obtain ⟨a0, a1, a2, a3, a4, a5, a6, a7, a8, af⟩ := HC1.out.cells
  dsimp only at a0 a1 a2 a3 a4 a5 a6 a7 a8
  go_wp2_with fail
  refine (HD.out _ HC1.out.hand HC1.out.ltR).mono ?_
  rintro e V2 ⟨rfl, hF, hs⟩
  have HC2 := Lib.hid (HC1.out.handed hF hs)
  clear HC1 hF hs
  clear HD a0 a1 a2 a3 a4 a5 a6 a7 a8 af
  obtain ⟨a0, a1, a2, a3, a4, a5, a6, a7, a8, af⟩ := HC2.out.cells
  dsimp only at a0 a1 a2 a3 a4 a5 a6 a7 a8
  obtain ⟨_, ⟨h1, h2, h3, h4⟩, _⟩ := HC2.out.hand.cells
  go_upto_region 14 with fail
  clear h1 h2 h3 h4
  have HC3 := Lib.hid (HC2.out.setM (m + 1))
  clear HC2 a0 a1 a2 a3 a4 a5 a6 a7 a8 af
  obtain ⟨a0, a1, a2, a3, a4, a5, a6, a7, a8, af⟩ := HC3.out.cells
  dsimp only at a0 a1 a2 a3 a4 a5 a6 a7 a8
  obtain ⟨_, ⟨h1, h2, h3, h4⟩, _⟩ := HC3.out.hand.cells
  generalize (V2.setCell ⟨w.heap.size, 3, none⟩ (.int .i64 (m + 1))) = W0 at *
  refine wp_region_held_drew (S := (fun w' => w'.cell? ⟨X, 1, none⟩ = some (.int .i64 C.b) ∧ w'.cell? ⟨w.heap.size, 3, none⟩ = some (.int .i64 (m + 1)))) (by kernel_rfl) ?_ (fun hHeld => ?_)
  · exact ⟨h2, a3⟩
  refine wpAnyH_take (i := 0) (oi := { dst := some 82, op := Op.fieldAddr 28 (Operand.tmp 3) 3, type := 0, pos := "ref.go:27", after := #[], guard := none }) (v := ?vz0) rfl (by kernel_rfl) (by kernel_rfl) (by kernel_rfl) (fun _ _ _ h => h) (Or.inl ⟨by rfl, ?hyz0⟩) hHeld ?_
  case hyz0 => (intro w hSw; (try dsimp only at hSw); go_simp; (try with_reducible rfl))
  try simp only [Act.put, List.setIfInBounds_toArray, List.set_cons_zero, List.set_cons_succ]
  refine wpAnyH_take (i := 1) (oi := { dst := some 83, op := Op.load 3 (Operand.tmp 82), type := 3, pos := "ref.go:27", after := #[{ on := 0, ground := Ground.data }], guard := none }) (v := ?vz1) rfl (by kernel_rfl) (by kernel_rfl) (by kernel_rfl) (fun _ _ _ h => h) (Or.inl ⟨by rfl, ?hyz1⟩) hHeld ?_
  case hyz1 => (intro w hSw; (try dsimp only at hSw); go_simp; (try with_reducible rfl))
  try simp only [Act.put, List.setIfInBounds_toArray, List.set_cons_zero, List.set_cons_succ]
  refine wpAnyH_take (i := 2) (oi := { dst := some 84, op := Op.move (Operand.tmp 0), type := 33, pos := "ref.go:27", after := #[], guard := none }) (v := ?vz2) rfl (by kernel_rfl) (by kernel_rfl) (by kernel_rfl) (fun _ _ _ h => h) (Or.inl ⟨by rfl, ?hyz2⟩) hHeld ?_
  case hyz2 => (intro w hSw; (try dsimp only at hSw); go_simp; (try with_reducible rfl))
  try simp only [Act.put, List.setIfInBounds_toArray, List.set_cons_zero, List.set_cons_succ]
  refine wpAnyH_take (i := 3) (oi := { dst := some 85, op := Op.nilCheck (Operand.tmp 84), type := 0, pos := "ref.go:27", after := #[{ on := 2, ground := Ground.data }], guard := none }) (v := ?vz3) rfl (by kernel_rfl) (by kernel_rfl) (by kernel_rfl) (fun _ _ _ h => h) (Or.inl ⟨by rfl, ?hyz3⟩) hHeld ?_
  case hyz3 => (intro w hSw; (try dsimp only at hSw); go_simp; (try with_reducible rfl))
  try simp only [Act.put, List.setIfInBounds_toArray, List.set_cons_zero, List.set_cons_succ]
  refine wpAnyH_take (i := 4) (oi := { dst := some 86, op := Op.fieldAddr 59 (Operand.tmp 85) 0, type := 0, pos := "ref.go:27", after := #[{ on := 3, ground := Ground.data }], guard := none }) (v := ?vz4) rfl (by kernel_rfl) (by kernel_rfl) (by kernel_rfl) (fun _ _ _ h => h) (Or.inl ⟨by rfl, ?hyz4⟩) hHeld ?_
  case hyz4 => (intro w hSw; (try dsimp only at hSw); go_simp; (try with_reducible rfl))
  try simp only [Act.put, List.setIfInBounds_toArray, List.set_cons_zero, List.set_cons_succ]
  refine wpAnyH_take (i := 5) (oi := { dst := some 87, op := Op.fieldAddr 23 (Operand.tmp 86) 1, type := 0, pos := "ref.go:27", after := #[{ on := 4, ground := Ground.data }], guard := none }) (v := ?vz5) rfl (by kernel_rfl) (by kernel_rfl) (by kernel_rfl) (fun _ _ _ h => h) (Or.inl ⟨by rfl, ?hyz5⟩) hHeld ?_
  case hyz5 => (intro w hSw; (try dsimp only at hSw); go_simp; (try with_reducible rfl))
  try simp only [Act.put, List.setIfInBounds_toArray, List.set_cons_zero, List.set_cons_succ]
  refine wpAnyH_take (i := 6) (oi := { dst := some 88, op := Op.load 3 (Operand.tmp 87), type := 3, pos := "ref.go:27", after := #[{ on := 5, ground := Ground.data }], guard := none }) (v := ?vz6) rfl (by kernel_rfl) (by kernel_rfl) (by kernel_rfl) (fun _ _ _ h => h) (Or.inl ⟨by rfl, ?hyz6⟩) hHeld ?_
  case hyz6 => (intro w hSw; (try dsimp only at hSw); go_simp; (try with_reducible rfl))
  try simp only [Act.put, List.setIfInBounds_toArray, List.set_cons_zero, List.set_cons_succ]
  refine wpAnyH_take (i := 7) (oi := { dst := some 89, op := Op.binOp BinOp.geq 3 (Operand.tmp 83) (Operand.tmp 88) 3, type := 4, pos := "ref.go:27", after := #[{ on := 1, ground := Ground.data }, { on := 6, ground := Ground.data }], guard := none }) (v := ?vz7) rfl (by kernel_rfl) (by kernel_rfl) (by kernel_rfl) (fun _ _ _ h => h) (Or.inl ⟨by rfl, ?hyz7⟩) hHeld ?_
  case hyz7 => (intro w hSw; (try dsimp only at hSw); go_simp; (try with_reducible rfl))
  try simp only [Act.put, List.setIfInBounds_toArray, List.set_cons_zero, List.set_cons_succ]
  refine wpAnyH_done (by kernel_rfl) ?_ _
  have HC4 := Lib.hid HC3.out.drew
  clear hHeld h1 h2 h3 h4 HC3 a0 a1 a2 a3 a4 a5 a6 a7 a8 af
  generalize W0.drew = W1 at *
  obtain ⟨a0, a1, a2, a3, a4, a5, a6, a7, a8, af⟩ := HC4.out.cells
  dsimp only at a0 a1 a2 a3 a4 a5 a6 a7 a8
  have HCe := Lib.hid HC4.out
  obtain ⟨d0, d1, d2, d3, d4, d5, d6, d7, d8, df⟩ := HCe.out.cells
  dsimp only at d0 d1 d2 d3 d4 d5 d6 d7 d8
  obtain ⟨c0, c1, c2, c3, c4, c5, c6, c7, c8, cf⟩ := HCe.out.cellsY
  obtain ⟨s0, s1, s2, s3, s4, s5, s6, s7, s8, sf⟩ := (HCe.out.last ⟨12, j, c, (m + 1), a, p, fd, tl, cy⟩).cells
  dsimp only at s0 s1 s2 s3 s4 s5 s6 s7 s8
  clear HC4 a0 a1 a2 a3 a4 a5 a6 a7 a8 af
  go_wp2_with fail
  refine bodyPost_ret (v := .tuple #[(colV 12 j c (m + 1) a p fd tl cy), .bool false, .bool true]) (by simp [results, Tryz.f29, go_sem, s0, s1, s2, s3, s4, s5, s6, s7, s8]) rfl ?_
  exact ⟨rfl, HCe.out.fin ⟨12, j, c, (m + 1), a, p, fd, tl, cy⟩⟩
set_option maxHeartbeats 3200000 in
theorem rb12_over {w : World} {X : Nat} {va : Option Addr} {cap N : Nat} {C : Cf} {s : Dy} (hH : RAt w X va cap N C s) (hL : ∀ R, va = some ⟨R, 0, none⟩ → R < w.heap.size) (hr : Right C.a C.b C.c C.d)  (j c m a p : Int) (fd : Bool) (tl cy : Int) (hm : -1000000000000 ≤ m ∧ m ≤ 1000000000000) (u : Nat) (hu6 : u < 18446744073709551616) (hT : z5 C.n 1 (inP C.a C.b C.c C.d m) (s.f (inP C.a C.b C.c C.d m).toNat) = (u : Int)) (hs : ¬ (u % 4 = 1 ∨ u % 4 = 2)) (hn : ¬ m + 1 < C.b) :
    Calls Tryz.prog 29 #[.pointer (some ⟨X, 0, none⟩), (colV 12 j c m a p fd tl cy)] w (RP w X va cap N C (s.act C 1 (inP C.a C.b C.c C.d m) 0 0) (.tuple #[(colV 13 j c 0 a p fd tl cy), .bool false, .bool true])) := by
  have HC0 := Lib.hid (ColR.start hH hL ⟨12, j, c, m, a, p, fd, tl, cy⟩)
  have HA : Hid (∀ W, RAt W X va cap N C s → Calls Tryz.prog 56 #[.pointer (some ⟨X, 0, none⟩), .int .i64 m] W fun e w' => e = .returned (.int .i64 (inP C.a C.b C.c C.d m)) ∧ Below W.heap.size W w') := Lib.hid (fun W hW => rIn_c (w := W) hW hr m)
  have HD : Hid (∀ W, RAt W X va cap N C s → (∀ R, va = some ⟨R, 0, none⟩ → R < W.heap.size) → Calls Tryz.prog 48 #[.pointer (some ⟨X, 0, none⟩), .int .i64 (inP C.a C.b C.c C.d m)] W (RP W X va cap N C (s.act C 1 (inP C.a C.b C.c C.d m) 0 0) (.int .u64 (z5 C.n 1 (inP C.a C.b C.c C.d m) (s.f ((inP C.a C.b C.c C.d m)).toNat))))) := Lib.hid (fun W hW hl => rLoad_c (w := W) hW hl (inP C.a C.b C.c C.d m))
  generalize (s.act C 1 (inP C.a C.b C.c C.d m) 0 0) = s' at *
  generalize (z5 C.n 1 (inP C.a C.b C.c C.d m) (s.f ((inP C.a C.b C.c C.d m)).toNat)) = T at *
  generalize (inP C.a C.b C.c C.d m) = P at *
  subst hT
  obtain ⟨t, ht⟩ : ∃ t : Int, Int.tmod (u : Int) 4 = t := ⟨_, rfl⟩
  have htt : t = (u : Int) % 4 := by rw [← ht, Int.tmod_eq_emod_of_nonneg (by omega)]
  have hne1 : (t == 1) = false := by simp; omega
  have hne2 : (t == 2) = false := by simp; omega
  clear hs htt
  have hw1 : IntKind.i64.wrap (m + 1) = m + 1 := IntWalk.i64_in _ (by omega)
  have hr0 : 1 ≤ C.b ∧ C.b ≤ 63 := by unfold Right at hr; omega
  have hge : decide (C.b ≤ m + 1) = true := decide_eq_true (by omega)
  clear hH hL hr hu6 hm hn hr0
  obtain ⟨a0, a1, a2, a3, a4, a5, a6, a7, a8, af⟩ := HC0.out.cells
  dsimp only at a0 a1 a2 a3 a4 a5 a6 a7 a8
  go_enter Tryz.func29, Tryz.ntmps29
  go_wp2_with fail
  refine (HA.out _ HC0.out.hand).mono ?_
  rintro e V1 ⟨rfl, hb⟩
  have HC1 := Lib.hid (HC0.out.below hb)
  clear HC0
  clear hb
  clear HA a0 a1 a2 a3 a4 a5 a6 a7 a8 af
  obtain ⟨a0, a1, a2, a3, a4, a5, a6, a7, a8, af⟩ := HC1.out.cells
  dsimp only at a0 a1 a2 a3 a4 a5 a6 a7 a8
  go_wp2_with fail
  refine (HD.out _ HC1.out.hand HC1.out.ltR).mono ?_
  rintro e V2 ⟨rfl, hF, hs⟩
  have HC2 := Lib.hid (HC1.out.handed hF hs)
  clear HC1 hF hs
  clear HD a0 a1 a2 a3 a4 a5 a6 a7 a8 af
  obtain ⟨a0, a1, a2, a3, a4, a5, a6, a7, a8, af⟩ := HC2.out.cells
  dsimp only at a0 a1 a2 a3 a4 a5 a6 a7 a8
  obtain ⟨_, ⟨h1, h2, h3, h4⟩, _⟩ := HC2.out.hand.cells
  go_upto_region 14 with fail
  clear h1 h2 h3 h4
  have HC3 := Lib.hid (HC2.out.setM (m + 1))
  clear HC2 a0 a1 a2 a3 a4 a5 a6 a7 a8 af
  obtain ⟨a0, a1, a2, a3, a4, a5, a6, a7, a8, af⟩ := HC3.out.cells
  dsimp only at a0 a1 a2 a3 a4 a5 a6 a7 a8
  obtain ⟨_, ⟨h1, h2, h3, h4⟩, _⟩ := HC3.out.hand.cells
  generalize (V2.setCell ⟨w.heap.size, 3, none⟩ (.int .i64 (m + 1))) = W0 at *
  refine wp_region_held_drew (S := (fun w' => w'.cell? ⟨X, 1, none⟩ = some (.int .i64 C.b) ∧ w'.cell? ⟨w.heap.size, 3, none⟩ = some (.int .i64 (m + 1)))) (by kernel_rfl) ?_ (fun hHeld => ?_)
  · exact ⟨h2, a3⟩
  refine wpAnyH_take (i := 0) (oi := { dst := some 82, op := Op.fieldAddr 28 (Operand.tmp 3) 3, type := 0, pos := "ref.go:27", after := #[], guard := none }) (v := ?vz0) rfl (by kernel_rfl) (by kernel_rfl) (by kernel_rfl) (fun _ _ _ h => h) (Or.inl ⟨by rfl, ?hyz0⟩) hHeld ?_
  case hyz0 => (intro w hSw; (try dsimp only at hSw); go_simp; (try with_reducible rfl))
  try simp only [Act.put, List.setIfInBounds_toArray, List.set_cons_zero, List.set_cons_succ]
  refine wpAnyH_take (i := 1) (oi := { dst := some 83, op := Op.load 3 (Operand.tmp 82), type := 3, pos := "ref.go:27", after := #[{ on := 0, ground := Ground.data }], guard := none }) (v := ?vz1) rfl (by kernel_rfl) (by kernel_rfl) (by kernel_rfl) (fun _ _ _ h => h) (Or.inl ⟨by rfl, ?hyz1⟩) hHeld ?_
  case hyz1 => (intro w hSw; (try dsimp only at hSw); go_simp; (try with_reducible rfl))
  try simp only [Act.put, List.setIfInBounds_toArray, List.set_cons_zero, List.set_cons_succ]
  refine wpAnyH_take (i := 2) (oi := { dst := some 84, op := Op.move (Operand.tmp 0), type := 33, pos := "ref.go:27", after := #[], guard := none }) (v := ?vz2) rfl (by kernel_rfl) (by kernel_rfl) (by kernel_rfl) (fun _ _ _ h => h) (Or.inl ⟨by rfl, ?hyz2⟩) hHeld ?_
  case hyz2 => (intro w hSw; (try dsimp only at hSw); go_simp; (try with_reducible rfl))
  try simp only [Act.put, List.setIfInBounds_toArray, List.set_cons_zero, List.set_cons_succ]
  refine wpAnyH_take (i := 3) (oi := { dst := some 85, op := Op.nilCheck (Operand.tmp 84), type := 0, pos := "ref.go:27", after := #[{ on := 2, ground := Ground.data }], guard := none }) (v := ?vz3) rfl (by kernel_rfl) (by kernel_rfl) (by kernel_rfl) (fun _ _ _ h => h) (Or.inl ⟨by rfl, ?hyz3⟩) hHeld ?_
  case hyz3 => (intro w hSw; (try dsimp only at hSw); go_simp; (try with_reducible rfl))
  try simp only [Act.put, List.setIfInBounds_toArray, List.set_cons_zero, List.set_cons_succ]
  refine wpAnyH_take (i := 4) (oi := { dst := some 86, op := Op.fieldAddr 59 (Operand.tmp 85) 0, type := 0, pos := "ref.go:27", after := #[{ on := 3, ground := Ground.data }], guard := none }) (v := ?vz4) rfl (by kernel_rfl) (by kernel_rfl) (by kernel_rfl) (fun _ _ _ h => h) (Or.inl ⟨by rfl, ?hyz4⟩) hHeld ?_
  case hyz4 => (intro w hSw; (try dsimp only at hSw); go_simp; (try with_reducible rfl))
  try simp only [Act.put, List.setIfInBounds_toArray, List.set_cons_zero, List.set_cons_succ]
  refine wpAnyH_take (i := 5) (oi := { dst := some 87, op := Op.fieldAddr 23 (Operand.tmp 86) 1, type := 0, pos := "ref.go:27", after := #[{ on := 4, ground := Ground.data }], guard := none }) (v := ?vz5) rfl (by kernel_rfl) (by kernel_rfl) (by kernel_rfl) (fun _ _ _ h => h) (Or.inl ⟨by rfl, ?hyz5⟩) hHeld ?_
  case hyz5 => (intro w hSw; (try dsimp only at hSw); go_simp; (try with_reducible rfl))
  try simp only [Act.put, List.setIfInBounds_toArray, List.set_cons_zero, List.set_cons_succ]
  refine wpAnyH_take (i := 6) (oi := { dst := some 88, op := Op.load 3 (Operand.tmp 87), type := 3, pos := "ref.go:27", after := #[{ on := 5, ground := Ground.data }], guard := none }) (v := ?vz6) rfl (by kernel_rfl) (by kernel_rfl) (by kernel_rfl) (fun _ _ _ h => h) (Or.inl ⟨by rfl, ?hyz6⟩) hHeld ?_
  case hyz6 => (intro w hSw; (try dsimp only at hSw); go_simp; (try with_reducible rfl))
  try simp only [Act.put, List.setIfInBounds_toArray, List.set_cons_zero, List.set_cons_succ]
  refine wpAnyH_take (i := 7) (oi := { dst := some 89, op := Op.binOp BinOp.geq 3 (Operand.tmp 83) (Operand.tmp 88) 3, type := 4, pos := "ref.go:27", after := #[{ on := 1, ground := Ground.data }, { on := 6, ground := Ground.data }], guard := none }) (v := ?vz7) rfl (by kernel_rfl) (by kernel_rfl) (by kernel_rfl) (fun _ _ _ h => h) (Or.inl ⟨by rfl, ?hyz7⟩) hHeld ?_
  case hyz7 => (intro w hSw; (try dsimp only at hSw); go_simp; (try with_reducible rfl))
  try simp only [Act.put, List.setIfInBounds_toArray, List.set_cons_zero, List.set_cons_succ]
  refine wpAnyH_done (by kernel_rfl) ?_ _
  have HC4 := Lib.hid HC3.out.drew
  clear hHeld h1 h2 h3 h4 HC3 a0 a1 a2 a3 a4 a5 a6 a7 a8 af
  generalize W0.drew = W1 at *
  obtain ⟨a0, a1, a2, a3, a4, a5, a6, a7, a8, af⟩ := HC4.out.cells
  dsimp only at a0 a1 a2 a3 a4 a5 a6 a7 a8
  have HCe := Lib.hid ((HC4.out.setM 0).setL 13)
  obtain ⟨b0, b1, b2, b3, b4, b5, b6, b7, b8, bf⟩ := HC4.out.cells
  dsimp only at b0 b1 b2 b3 b4 b5 b6 b7 b8
  obtain ⟨d0, d1, d2, d3, d4, d5, d6, d7, d8, df⟩ := HCe.out.cells
  dsimp only at d0 d1 d2 d3 d4 d5 d6 d7 d8
  obtain ⟨c0, c1, c2, c3, c4, c5, c6, c7, c8, cf⟩ := HCe.out.cellsY
  obtain ⟨s0, s1, s2, s3, s4, s5, s6, s7, s8, sf⟩ := (HCe.out.last ⟨13, j, c, 0, a, p, fd, tl, cy⟩).cells
  dsimp only at s0 s1 s2 s3 s4 s5 s6 s7 s8
  clear HC4 a0 a1 a2 a3 a4 a5 a6 a7 a8 af
  go_wp2_with fail
  refine bodyPost_ret (v := .tuple #[(colV 13 j c 0 a p fd tl cy), .bool false, .bool true]) (by simp [results, Tryz.f29, go_sem, s0, s1, s2, s3, s4, s5, s6, s7, s8]) rfl ?_
  exact ⟨rfl, HCe.out.fin ⟨13, j, c, 0, a, p, fd, tl, cy⟩⟩
end Go.Proofs.YthdcapkchjamoaaGreatDoor
