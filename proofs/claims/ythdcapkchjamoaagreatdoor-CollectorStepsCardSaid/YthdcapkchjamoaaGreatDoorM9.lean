/- Laid together: RootsDo, PassNext, PassDoA. -/
import Derived.Test.YthdcapkchjamoaaGreatDoorM8
import Derived.Test.YthdcapkchjamoaaGreatDoorRootsStepB
import Derived.Test.YthdcapkchjamoaaGreatDoorRootsStepC
import Derived.Test.YthdcapkchjamoaaGreatDoorRootsRefA
import Derived.Test.YthdcapkchjamoaaGreatDoorRootsRefB
import Derived.Test.YthdcapkchjamoaaGreatDoorColF
import Derived.Test.YthdcapkchjamoaaGreatDoorM6
import Derived.Test.YthdcapkchjamoaaGreatDoorPlaceAt
/- A step of both as one function. -/
namespace Go.Proofs.YthdcapkchjamoaaGreatDoor
open Go Go.RowKit
set_option maxRecDepth 100000
attribute [local go_sem ↓] Go.wp_at_zero Go.wp_at_succ

theorem rootS_U {C : Cf} {s : Dy} (h : s.U) (x : Co) (hx : x.U) : (rootS C s x).1.U ∧ (rootS C s x).2.1.U := by
  have h0 := u64_zero
  have h1 : U64 1 := by unfold U64; omega
  have hn : (nextRoot C x).U := by unfold nextRoot; exact ⟨hx.1, h0⟩
  unfold rootS
  split
  · refine ⟨h.act C 1 _ h0 h0, ?_⟩
    show Co.U (if _ then _ else _)
    split
    · exact ⟨hx.1, z5_u64 (h _)⟩
    · exact hn
  · split
    · exact ⟨h.act C 3 _ h0 h1, hn⟩
    · exact ⟨h, hx⟩
theorem root_c {w : World} {H A G : Nat} {C : Cf} {s : Dy} (hH : HAt w H A G C s) (hu : s.U) (hS : SpansAt w) (hr : Right C.a C.b C.c C.d) (hn : 0 < C.n) (x : Co) (hx : x.U) (hj : -1000000000000 ≤ x.j ∧ x.j ≤ 1000000000000) :
    Calls Tryz.prog 43 #[.pointer (some ⟨H, 0, none⟩), x.v] w (HP w H A G C (rootS C s x).1 (.tuple #[(rootS C s x).2.1.v, .bool (rootS C s x).2.2])) := by
  obtain ⟨l, j, c, m, a, p, fd, tl, cy⟩ := x
  obtain ⟨_, hp⟩ := hx
  dsimp only at hj hp
  obtain ⟨v, rfl, hv⟩ := u64_nat' hp
  unfold rootS ldP
  dsimp only
  by_cases e : l = 1
  · subst e; rw [if_pos rfl]
    obtain ⟨u, hT, hu6⟩ := u64_nat' (z5_u64 (n := C.n) (k := 1) (i := (rootP C.a C.b C.c C.d j)) (hu (rootP C.a C.b C.c C.d j).toNat))
    simp only [hT, Int.toNat_natCast]
    by_cases hc : isC u
    · simp only [if_pos hc]; exact roStep_cell hH hu hS hr j c m a (v : Int) fd tl cy hn hj u hu6 hT hc
    · simp only [if_neg hc]; exact roStep_no hH hu hS hr j c m a (v : Int) fd tl cy hn hj u hu6 hT hc
  rw [if_neg e]
  by_cases e2 : l = 2
  · subst e2; rw [if_pos rfl]; simp only [Int.toNat_natCast]; exact roStep_shade hH hu hS hr j c m a fd tl cy hn hj v hv
  rw [if_neg e2]; exact roStep_other hH hu hS hr l j c m a fd tl cy hn e e2 v hv
theorem rroot_c {w : World} {X : Nat} {va : Option Addr} {cap N : Nat} {C : Cf} {s : Dy} (hH : RAt w X va cap N C s) (hL : ∀ R, va = some ⟨R, 0, none⟩ → R < w.heap.size) (hr : Right C.a C.b C.c C.d) (hu : s.U) (x : Co) (hx : x.U) (hj : -1000000000000 ≤ x.j ∧ x.j ≤ 1000000000000) :
    Calls Tryz.prog 27 #[.pointer (some ⟨X, 0, none⟩), x.v] w (RP w X va cap N C (rootS C s x).1 (.tuple #[(rootS C s x).2.1.v, .bool (rootS C s x).2.2])) := by
  obtain ⟨l, j, c, m, a, p, fd, tl, cy⟩ := x
  obtain ⟨_, hp⟩ := hx
  dsimp only at hj hp
  obtain ⟨v, rfl, hv⟩ := u64_nat' hp
  unfold rootS ldP
  dsimp only
  by_cases e : l = 1
  · subst e; rw [if_pos rfl]
    obtain ⟨u, hT, hu6⟩ := u64_nat' (z5_u64 (n := C.n) (k := 1) (i := (rootP C.a C.b C.c C.d j)) (hu (rootP C.a C.b C.c C.d j).toNat))
    simp only [hT, Int.toNat_natCast]
    by_cases hc : isC u
    · simp only [if_pos hc]; exact rroStep_cell hH hL hr j c m a (v : Int) fd tl cy hj u hu6 hT hc
    · simp only [if_neg hc]; unfold nextRoot rootsN
      by_cases hm : j + 1 < (1 + C.d + C.b * C.c)
      · simp only [if_pos hm]; exact rroStep_more hH hL hr j c m a (v : Int) fd tl cy hj u hu6 hT hc hm
      · simp only [if_neg hm]; exact rroStep_over hH hL hr j c m a (v : Int) fd tl cy hj u hu6 hT hc hm
  rw [if_neg e]
  by_cases e2 : l = 2
  · subst e2; rw [if_pos rfl]; simp only [Int.toNat_natCast]; unfold nextRoot rootsN
    by_cases hm : j + 1 < (1 + C.d + C.b * C.c)
    · simp only [if_pos hm]; exact rroStep_shade_more hH hL hr j c m a fd tl cy hj v hv hm
    · simp only [if_neg hm]; exact rroStep_shade_over hH hL hr j c m a fd tl cy hj v hv hm
  rw [if_neg e2]; exact rroStep_other hH hL hr l j c m a (v : Int) fd tl cy e e2
end Go.Proofs.YthdcapkchjamoaaGreatDoor
/- next and load of package pass. -/
namespace Go.Proofs.YthdcapkchjamoaaGreatDoor
open Go Go.RowKit
set_option maxRecDepth 100000
attribute [local go_sem ↓] Go.wp_at_zero Go.wp_at_succ

theorem pnext_more (l j c m a p : Int) (fd : Bool) (tl cy : Int) (n : Int) (hn : 1 ≤ n ∧ n ≤ 5000) (hc : -1000000000000 ≤ c ∧ c ≤ 1000000000000) (h : c + 1 < n) (w : World) :
    Calls Tryz.prog 79 #[(colV l j c m a p fd tl cy), .int .i64 n] w fun e w' => e = .returned (colV 4 j (c + 1) m a p fd tl cy) ∧ Below w.heap.size w w' := by
  have hw1 : IntKind.i64.wrap (n - 1) = n - 1 := IntWalk.i64_in _ (by omega)
  have hw2 : IntKind.i64.wrap (c + 1) = c + 1 := IntWalk.i64_in _ (by omega)
  have hlt : c < n - 1 := by omega
  clear hn hc h
  go_enter Tryz.func79, Tryz.ntmps79
  go_wp2_with fail
  refine bodyPost_ret (v := (colV 4 j (c + 1) m a p fd tl cy)) (by simp [results, Tryz.f79, go_sem]) rfl ?_
  exact ⟨rfl, below_on (below_new _ _) _⟩
theorem pnext_again (l j c m a p : Int) (tl cy : Int) (n : Int) (hn : 1 ≤ n ∧ n ≤ 5000) (hc : -1000000000000 ≤ c ∧ c ≤ 1000000000000) (h : ¬ c + 1 < n) (w : World) :
    Calls Tryz.prog 79 #[(colV l j c m a p true tl cy), .int .i64 n] w fun e w' => e = .returned (colV 3 j (c + 1) m a p true tl cy) ∧ Below w.heap.size w w' := by
  have hw1 : IntKind.i64.wrap (n - 1) = n - 1 := IntWalk.i64_in _ (by omega)
  have hw2 : IntKind.i64.wrap (c + 1) = c + 1 := IntWalk.i64_in _ (by omega)
  have hlt : ¬ c < n - 1 := by omega
  clear hn hc h
  go_enter Tryz.func79, Tryz.ntmps79
  go_wp2_with fail
  refine bodyPost_ret (v := (colV 3 j (c + 1) m a p true tl cy)) (by simp [results, Tryz.f79, go_sem]) rfl ?_
  exact ⟨rfl, below_on (below_new _ _) _⟩
theorem pnext_over (l j c m a p : Int) (tl cy : Int) (n : Int) (hn : 1 ≤ n ∧ n ≤ 5000) (hc : -1000000000000 ≤ c ∧ c ≤ 1000000000000) (h : ¬ c + 1 < n) (w : World) :
    Calls Tryz.prog 79 #[(colV l j c m a p false tl cy), .int .i64 n] w fun e w' => e = .returned (colV 10 j (c + 1) 0 a p false tl cy) ∧ Below w.heap.size w w' := by
  have hw1 : IntKind.i64.wrap (n - 1) = n - 1 := IntWalk.i64_in _ (by omega)
  have hw2 : IntKind.i64.wrap (c + 1) = c + 1 := IntWalk.i64_in _ (by omega)
  have hlt : ¬ c < n - 1 := by omega
  clear hn hc h
  go_enter Tryz.func79, Tryz.ntmps79
  go_wp2_with fail
  refine bodyPost_ret (v := (colV 10 j (c + 1) 0 a p false tl cy)) (by simp [results, Tryz.f79, go_sem]) rfl ?_
  exact ⟨rfl, below_on (below_new _ _) _⟩
theorem pnext_c (C : Cf) (hr : Right C.a C.b C.c C.d) (l j c m a p : Int) (fd : Bool) (tl cy : Int) (hc : -1000000000000 ≤ c ∧ c ≤ 1000000000000) (w : World) :
    Calls Tryz.prog 79 #[(colV l j c m a p fd tl cy), .int .i64 C.a] w fun e w' => e = .returned (nextCell C ⟨l, j, c, m, a, p, fd, tl, cy⟩).v ∧ Below w.heap.size w w' := by
  have hn : 1 ≤ C.a ∧ C.a ≤ 5000 := by unfold Right at hr; omega
  unfold nextCell
  by_cases h : c + 1 < C.a
  · simp only [if_pos h]; exact pnext_more l j c m a p fd tl cy _ hn hc h w
  · cases fd
    · simp only [if_neg h]; exact pnext_over l j c m a p tl cy _ hn hc h w
    · simp only [if_neg h]; exact pnext_again l j c m a p tl cy _ hn hc h w
set_option maxHeartbeats 3200000 in
theorem pload_cell {w : World} {H A G : Nat} {C : Cf} {s : Dy} (hH : HAt w H A G C s) (hu : s.U) (_ : SpansAt w) (_ : Right C.a C.b C.c C.d) (l j c m a p : Int) (fd : Bool) (tl cy : Int) (i : Int) (hl : 0 ≤ l ∧ l ≤ 100) (u : Nat) (hu6 : u < 18446744073709551616) (hT : z5 C.n 1 i (s.f i.toNat) = (u : Int)) (hcl : isC u) :
    Calls Tryz.prog 77 #[.pointer (some ⟨H, 0, none⟩), (colV l j c m a p fd tl cy), .int .i64 i] w (HP w H A G C (s.act C 1 i 0 0) (colV (l + 1) j c m (u : Int) p fd tl cy)) := by
  have HC0 := Lib.hid (ColF.start hH ⟨l, j, c, m, a, p, fd, tl, cy⟩)
  have HD : Hid (∀ W, HAt W H A G C s → Calls Tryz.prog 11 #[.pointer (some ⟨H, 0, none⟩), .int .i64 i] W (HP W H A G C (s.act C 1 i 0 0) (.int .u64 (z5 C.n 1 i (s.f (i).toNat))))) := Lib.hid (fun W hW => hLoad_c (w := W) hW hu i)
  have HI : Hid (∀ W, Calls Tryz.prog 71 #[.int .u64 (u : Int)] W fun e w' => e = .returned (.tuple #[.int .i64 (cellK u), .bool true]) ∧ W = w') := Lib.hid (fun W => by have := isCell_c u hu6 W; rw [decide_eq_true hcl] at this; exact this)
  generalize cellK u = k at *
  generalize (s.act C 1 i 0 0) = s' at *
  generalize (z5 C.n 1 i (s.f (i).toNat)) = T at *
  subst hT
  have hw1 : IntKind.i64.wrap (l + 1) = l + 1 := IntWalk.i64_in _ (by omega)
  clear hH hu hl hu6 hcl
  obtain ⟨a0, a1, a2, a3, a4, a5, a6, a7, a8, af⟩ := HC0.out.cells
  dsimp only at a0 a1 a2 a3 a4 a5 a6 a7 a8
  go_enter Tryz.func77, Tryz.ntmps77
  go_wp2_with fail
  refine (HD.out _ HC0.out.hand).mono ?_
  rintro e V1 ⟨rfl, hF, hs⟩
  have HC1 := Lib.hid (HC0.out.handed hF hs)
  clear HC0 hF hs
  clear HD a0 a1 a2 a3 a4 a5 a6 a7 a8 af
  obtain ⟨a0, a1, a2, a3, a4, a5, a6, a7, a8, af⟩ := HC1.out.cells
  dsimp only at a0 a1 a2 a3 a4 a5 a6 a7 a8
  go_wp2_with fail
  have HC2 := Lib.hid ((HC1.out.setA (u : Int)).setL (l + 1))
  clear HC1 a0 a1 a2 a3 a4 a5 a6 a7 a8 af
  obtain ⟨a0, a1, a2, a3, a4, a5, a6, a7, a8, af⟩ := HC2.out.cells
  dsimp only at a0 a1 a2 a3 a4 a5 a6 a7 a8
  refine (HI.out _).mono ?_
  rintro e V2 ⟨rfl, rfl⟩
  clear HI a0 a1 a2 a3 a4 a5 a6 a7 a8 af
  have HCe := Lib.hid HC2.out
  obtain ⟨d0, d1, d2, d3, d4, d5, d6, d7, d8, df⟩ := HCe.out.cells
  dsimp only at d0 d1 d2 d3 d4 d5 d6 d7 d8
  obtain ⟨c0, c1, c2, c3, c4, c5, c6, c7, c8, cf⟩ := HCe.out.cellsY
  obtain ⟨s0, s1, s2, s3, s4, s5, s6, s7, s8, sf⟩ := (HCe.out.last ⟨(l + 1), j, c, m, (u : Int), p, fd, tl, cy⟩).cells
  dsimp only at s0 s1 s2 s3 s4 s5 s6 s7 s8
  clear HC2 
  go_wp2_with fail
  refine bodyPost_ret (v := (colV (l + 1) j c m (u : Int) p fd tl cy)) (by simp [results, Tryz.f77, go_sem, s0, s1, s2, s3, s4, s5, s6, s7, s8]) rfl ?_
  exact ⟨rfl, HCe.out.fin ⟨(l + 1), j, c, m, (u : Int), p, fd, tl, cy⟩⟩
set_option maxHeartbeats 3200000 in
theorem pload_no {w : World} {H A G : Nat} {C : Cf} {s : Dy} (hH : HAt w H A G C s) (hu : s.U) (_ : SpansAt w) (_ : Right C.a C.b C.c C.d) (l j c m a p : Int) (fd : Bool) (tl cy : Int) (i : Int) (hl : 0 ≤ l ∧ l ≤ 100) (u : Nat) (hu6 : u < 18446744073709551616) (hT : z5 C.n 1 i (s.f i.toNat) = (u : Int)) (hcl : ¬ isC u) :
    Calls Tryz.prog 77 #[.pointer (some ⟨H, 0, none⟩), (colV l j c m a p fd tl cy), .int .i64 i] w (HP w H A G C (s.act C 1 i 0 0) (colV (l + 2) j c m (u : Int) p fd tl cy)) := by
  have HC0 := Lib.hid (ColF.start hH ⟨l, j, c, m, a, p, fd, tl, cy⟩)
  have HD : Hid (∀ W, HAt W H A G C s → Calls Tryz.prog 11 #[.pointer (some ⟨H, 0, none⟩), .int .i64 i] W (HP W H A G C (s.act C 1 i 0 0) (.int .u64 (z5 C.n 1 i (s.f (i).toNat))))) := Lib.hid (fun W hW => hLoad_c (w := W) hW hu i)
  have HI : Hid (∀ W, Calls Tryz.prog 71 #[.int .u64 (u : Int)] W fun e w' => e = .returned (.tuple #[.int .i64 (cellK u), .bool false]) ∧ W = w') := Lib.hid (fun W => by have := isCell_c u hu6 W; rw [decide_eq_false hcl] at this; exact this)
  generalize cellK u = k at *
  generalize (s.act C 1 i 0 0) = s' at *
  generalize (z5 C.n 1 i (s.f (i).toNat)) = T at *
  subst hT
  have hw1 : IntKind.i64.wrap (l + 1) = l + 1 := IntWalk.i64_in _ (by omega)
  have hw2 : IntKind.i64.wrap (l + 1 + 1) = l + 2 := by rw [IntWalk.i64_in _ (by omega)]; omega
  clear hH hu hl hu6 hcl
  obtain ⟨a0, a1, a2, a3, a4, a5, a6, a7, a8, af⟩ := HC0.out.cells
  dsimp only at a0 a1 a2 a3 a4 a5 a6 a7 a8
  go_enter Tryz.func77, Tryz.ntmps77
  go_wp2_with fail
  refine (HD.out _ HC0.out.hand).mono ?_
  rintro e V1 ⟨rfl, hF, hs⟩
  have HC1 := Lib.hid (HC0.out.handed hF hs)
  clear HC0 hF hs
  clear HD a0 a1 a2 a3 a4 a5 a6 a7 a8 af
  obtain ⟨a0, a1, a2, a3, a4, a5, a6, a7, a8, af⟩ := HC1.out.cells
  dsimp only at a0 a1 a2 a3 a4 a5 a6 a7 a8
  go_wp2_with fail
  have HC2 := Lib.hid ((HC1.out.setA (u : Int)).setL (l + 1))
  clear HC1 a0 a1 a2 a3 a4 a5 a6 a7 a8 af
  obtain ⟨a0, a1, a2, a3, a4, a5, a6, a7, a8, af⟩ := HC2.out.cells
  dsimp only at a0 a1 a2 a3 a4 a5 a6 a7 a8
  refine (HI.out _).mono ?_
  rintro e V2 ⟨rfl, rfl⟩
  clear HI a0 a1 a2 a3 a4 a5 a6 a7 a8 af
  have HCe := Lib.hid (HC2.out.setL (l + 2))
  obtain ⟨b0, b1, b2, b3, b4, b5, b6, b7, b8, bf⟩ := HC2.out.cells
  dsimp only at b0 b1 b2 b3 b4 b5 b6 b7 b8
  obtain ⟨d0, d1, d2, d3, d4, d5, d6, d7, d8, df⟩ := HCe.out.cells
  dsimp only at d0 d1 d2 d3 d4 d5 d6 d7 d8
  obtain ⟨c0, c1, c2, c3, c4, c5, c6, c7, c8, cf⟩ := HCe.out.cellsY
  obtain ⟨s0, s1, s2, s3, s4, s5, s6, s7, s8, sf⟩ := (HCe.out.last ⟨(l + 2), j, c, m, (u : Int), p, fd, tl, cy⟩).cells
  dsimp only at s0 s1 s2 s3 s4 s5 s6 s7 s8
  clear HC2 
  go_wp2_with fail
  refine bodyPost_ret (v := (colV (l + 2) j c m (u : Int) p fd tl cy)) (by simp [results, Tryz.f77, go_sem, s0, s1, s2, s3, s4, s5, s6, s7, s8]) rfl ?_
  exact ⟨rfl, HCe.out.fin ⟨(l + 2), j, c, m, (u : Int), p, fd, tl, cy⟩⟩
end Go.Proofs.YthdcapkchjamoaaGreatDoor
/- A step of package pass: lines 3, 6, 8, any other line, and no hand. -/
namespace Go.Proofs.YthdcapkchjamoaaGreatDoor
open Go Go.RowKit
set_option maxRecDepth 100000
attribute [local go_sem ↓] Go.wp_at_zero Go.wp_at_succ

set_option maxHeartbeats 3200000 in
theorem pStep_3 {w : World} {H A G : Nat} {C : Cf} {s : Dy} (hH : HAt w H A G C s) (hu : s.U) (_ : SpansAt w) (_ : Right C.a C.b C.c C.d) (_ : 0 < C.n) (j c m a p : Int) (fd : Bool) (tl cy : Int) :
    Calls Tryz.prog 44 #[.pointer (some ⟨H, 0, none⟩), (colV 3 j c m a p fd tl cy)] w (HP w H A G C (s.act C 2 2 0 0) (.tuple #[(colV 4 j 0 m a p false tl cy), .bool true])) := by
  have HC0 := Lib.hid (ColF.start hH ⟨3, j, c, m, a, p, fd, tl, cy⟩)
  have HD : Hid (∀ W, HAt W H A G C s → Calls Tryz.prog 76 #[.pointer (some ⟨H, 0, none⟩), .int .i64 2, .int .u64 0] W (HP W H A G C (s.act C 2 2 0 0) (.tuple #[]))) := Lib.hid (fun W hW => hStore_c (w := W) hW hu 2 0)
  generalize (s.act C 2 2 0 0) = s' at *
  clear hH hu
  obtain ⟨a0, a1, a2, a3, a4, a5, a6, a7, a8, af⟩ := HC0.out.cells
  dsimp only at a0 a1 a2 a3 a4 a5 a6 a7 a8
  go_enter Tryz.func44, Tryz.ntmps44
  go_wp2_with fail
  refine (HD.out _ HC0.out.hand).mono ?_
  rintro e V1 ⟨rfl, hF, hs⟩
  have HC1 := Lib.hid (HC0.out.handed hF hs)
  clear HC0 hF hs
  clear HD a0 a1 a2 a3 a4 a5 a6 a7 a8 af
  obtain ⟨a0, a1, a2, a3, a4, a5, a6, a7, a8, af⟩ := HC1.out.cells
  dsimp only at a0 a1 a2 a3 a4 a5 a6 a7 a8
  clear a0 a1 a2 a3 a4 a5 a6 a7 a8 af
  have HCe := Lib.hid (((HC1.out.setL 4).setC 0).setFD false)
  obtain ⟨b0, b1, b2, b3, b4, b5, b6, b7, b8, bf⟩ := HC1.out.cells
  dsimp only at b0 b1 b2 b3 b4 b5 b6 b7 b8
  obtain ⟨d0, d1, d2, d3, d4, d5, d6, d7, d8, df⟩ := HCe.out.cells
  dsimp only at d0 d1 d2 d3 d4 d5 d6 d7 d8
  obtain ⟨c0, c1, c2, c3, c4, c5, c6, c7, c8, cf⟩ := HCe.out.cellsY
  obtain ⟨s0, s1, s2, s3, s4, s5, s6, s7, s8, sf⟩ := (HCe.out.last ⟨4, j, 0, m, a, p, false, tl, cy⟩).cells
  dsimp only at s0 s1 s2 s3 s4 s5 s6 s7 s8
  clear HC1 
  go_wp2_with fail
  refine bodyPost_ret (v := .tuple #[(colV 4 j 0 m a p false tl cy), .bool true]) (by simp [results, Tryz.f44, go_sem, s0, s1, s2, s3, s4, s5, s6, s7, s8]) rfl ?_
  exact ⟨rfl, HCe.out.fin ⟨4, j, 0, m, a, p, false, tl, cy⟩⟩
set_option maxHeartbeats 3200000 in
theorem pStep_6 {w : World} {H A G : Nat} {C : Cf} {s : Dy} (hH : HAt w H A G C s) (hu : s.U) (hS : SpansAt w) (_ : Right C.a C.b C.c C.d) (hn : 0 < C.n) (j c m p : Int) (fd : Bool) (tl cy : Int) (v : Nat) (hv : v < 18446744073709551616) :
    Calls Tryz.prog 44 #[.pointer (some ⟨H, 0, none⟩), (colV 6 j c m (v : Int) p fd tl cy)] w (HP w H A G C (s.act C 3 (fieldP C.a C.b C.c C.d v 2) 0 1) (.tuple #[(colV 7 j c m (v : Int) p fd tl cy), .bool true])) := by
  have HC0 := Lib.hid (ColF.start hH ⟨6, j, c, m, (v : Int), p, fd, tl, cy⟩)
  have HSP : Hid (∀ W s' x', ColF w W H A G C s' x' → SpansAt W) := Lib.hid (fun W s' x' h => spans_sav hn hS hH h.sav)
  have HFd : Hid (∀ W, HAt W H A G C s → SpansAt W → Calls Tryz.prog 73 #[.pointer (some ⟨H, 0, none⟩), .int .u64 (v : Int), .int .i64 2] W fun e w' => e = .returned (.int .i64 (fieldP C.a C.b C.c C.d v 2)) ∧ Below W.heap.size W w') := Lib.hid (fun W hW hs => hField_c (w := W) hW hs v hv 2)
  have HD : Hid (∀ W, HAt W H A G C s → Calls Tryz.prog 72 #[.pointer (some ⟨H, 0, none⟩), .int .i64 (fieldP C.a C.b C.c C.d v 2), .int .u64 0, .int .u64 1] W (HP W H A G C (s.act C 3 (fieldP C.a C.b C.c C.d v 2) 0 1) (.bool (casB C.n s.f (fieldP C.a C.b C.c C.d v 2) 0)))) := Lib.hid (fun W hW => hCas_c (w := W) hW hu (fieldP C.a C.b C.c C.d v 2) 0 1)
  generalize (s.act C 3 (fieldP C.a C.b C.c C.d v 2) 0 1) = s' at *
  generalize (casB C.n s.f (fieldP C.a C.b C.c C.d v 2) 0) = b2 at *
  generalize (fieldP C.a C.b C.c C.d v 2) = P at *
  clear hH hu hS hv hn
  obtain ⟨a0, a1, a2, a3, a4, a5, a6, a7, a8, af⟩ := HC0.out.cells
  dsimp only at a0 a1 a2 a3 a4 a5 a6 a7 a8
  go_enter Tryz.func44, Tryz.ntmps44
  go_wp2_with fail
  refine (HFd.out _ HC0.out.hand (HSP.out _ _ _ HC0.out)).mono ?_
  rintro e V1 ⟨rfl, hb⟩
  have HC1 := Lib.hid (HC0.out.below hb)
  clear HC0
  clear hb
  clear HFd a0 a1 a2 a3 a4 a5 a6 a7 a8 af
  obtain ⟨a0, a1, a2, a3, a4, a5, a6, a7, a8, af⟩ := HC1.out.cells
  dsimp only at a0 a1 a2 a3 a4 a5 a6 a7 a8
  go_wp2_with fail
  refine (HD.out _ HC1.out.hand).mono ?_
  rintro e V2 ⟨rfl, hF, hs⟩
  have HC2 := Lib.hid (HC1.out.handed hF hs)
  clear HC1 hF hs
  clear HD a0 a1 a2 a3 a4 a5 a6 a7 a8 af
  obtain ⟨a0, a1, a2, a3, a4, a5, a6, a7, a8, af⟩ := HC2.out.cells
  dsimp only at a0 a1 a2 a3 a4 a5 a6 a7 a8
  clear a0 a1 a2 a3 a4 a5 a6 a7 a8 af
  have HCe := Lib.hid (HC2.out.setL 7)
  obtain ⟨b0, b1, b2, b3, b4, b5, b6, b7, b8, bf⟩ := HC2.out.cells
  dsimp only at b0 b1 b2 b3 b4 b5 b6 b7 b8
  obtain ⟨d0, d1, d2, d3, d4, d5, d6, d7, d8, df⟩ := HCe.out.cells
  dsimp only at d0 d1 d2 d3 d4 d5 d6 d7 d8
  obtain ⟨c0, c1, c2, c3, c4, c5, c6, c7, c8, cf⟩ := HCe.out.cellsY
  obtain ⟨s0, s1, s2, s3, s4, s5, s6, s7, s8, sf⟩ := (HCe.out.last ⟨7, j, c, m, (v : Int), p, fd, tl, cy⟩).cells
  dsimp only at s0 s1 s2 s3 s4 s5 s6 s7 s8
  clear HC2 
  go_wp2_with fail
  refine bodyPost_ret (v := .tuple #[(colV 7 j c m (v : Int) p fd tl cy), .bool true]) (by simp [results, Tryz.f44, go_sem, s0, s1, s2, s3, s4, s5, s6, s7, s8]) rfl ?_
  exact ⟨rfl, HCe.out.fin ⟨7, j, c, m, (v : Int), p, fd, tl, cy⟩⟩
set_option maxHeartbeats 3200000 in
theorem pStep_8 {w : World} {H A G : Nat} {C : Cf} {s : Dy} (hH : HAt w H A G C s) (hu : s.U) (hS : SpansAt w) (_ : Right C.a C.b C.c C.d) (hn : 0 < C.n) (j c m p : Int) (fd : Bool) (tl cy : Int) (v : Nat) (hv : v < 18446744073709551616) :
    Calls Tryz.prog 44 #[.pointer (some ⟨H, 0, none⟩), (colV 8 j c m (v : Int) p fd tl cy)] w (HP w H A G C (s.act C 3 (fieldP C.a C.b C.c C.d v 2) 0 1) (.tuple #[(colV 9 j c m (v : Int) p fd tl cy), .bool true])) := by
  have HC0 := Lib.hid (ColF.start hH ⟨8, j, c, m, (v : Int), p, fd, tl, cy⟩)
  have HSP : Hid (∀ W s' x', ColF w W H A G C s' x' → SpansAt W) := Lib.hid (fun W s' x' h => spans_sav hn hS hH h.sav)
  have HFd : Hid (∀ W, HAt W H A G C s → SpansAt W → Calls Tryz.prog 73 #[.pointer (some ⟨H, 0, none⟩), .int .u64 (v : Int), .int .i64 2] W fun e w' => e = .returned (.int .i64 (fieldP C.a C.b C.c C.d v 2)) ∧ Below W.heap.size W w') := Lib.hid (fun W hW hs => hField_c (w := W) hW hs v hv 2)
  have HD : Hid (∀ W, HAt W H A G C s → Calls Tryz.prog 72 #[.pointer (some ⟨H, 0, none⟩), .int .i64 (fieldP C.a C.b C.c C.d v 2), .int .u64 0, .int .u64 1] W (HP W H A G C (s.act C 3 (fieldP C.a C.b C.c C.d v 2) 0 1) (.bool (casB C.n s.f (fieldP C.a C.b C.c C.d v 2) 0)))) := Lib.hid (fun W hW => hCas_c (w := W) hW hu (fieldP C.a C.b C.c C.d v 2) 0 1)
  generalize (s.act C 3 (fieldP C.a C.b C.c C.d v 2) 0 1) = s' at *
  generalize (casB C.n s.f (fieldP C.a C.b C.c C.d v 2) 0) = b2 at *
  generalize (fieldP C.a C.b C.c C.d v 2) = P at *
  clear hH hu hS hv hn
  obtain ⟨a0, a1, a2, a3, a4, a5, a6, a7, a8, af⟩ := HC0.out.cells
  dsimp only at a0 a1 a2 a3 a4 a5 a6 a7 a8
  go_enter Tryz.func44, Tryz.ntmps44
  go_wp2_with fail
  refine (HFd.out _ HC0.out.hand (HSP.out _ _ _ HC0.out)).mono ?_
  rintro e V1 ⟨rfl, hb⟩
  have HC1 := Lib.hid (HC0.out.below hb)
  clear HC0
  clear hb
  clear HFd a0 a1 a2 a3 a4 a5 a6 a7 a8 af
  obtain ⟨a0, a1, a2, a3, a4, a5, a6, a7, a8, af⟩ := HC1.out.cells
  dsimp only at a0 a1 a2 a3 a4 a5 a6 a7 a8
  go_wp2_with fail
  refine (HD.out _ HC1.out.hand).mono ?_
  rintro e V2 ⟨rfl, hF, hs⟩
  have HC2 := Lib.hid (HC1.out.handed hF hs)
  clear HC1 hF hs
  clear HD a0 a1 a2 a3 a4 a5 a6 a7 a8 af
  obtain ⟨a0, a1, a2, a3, a4, a5, a6, a7, a8, af⟩ := HC2.out.cells
  dsimp only at a0 a1 a2 a3 a4 a5 a6 a7 a8
  clear a0 a1 a2 a3 a4 a5 a6 a7 a8 af
  have HCe := Lib.hid (HC2.out.setL 9)
  obtain ⟨b0, b1, b2, b3, b4, b5, b6, b7, b8, bf⟩ := HC2.out.cells
  dsimp only at b0 b1 b2 b3 b4 b5 b6 b7 b8
  obtain ⟨d0, d1, d2, d3, d4, d5, d6, d7, d8, df⟩ := HCe.out.cells
  dsimp only at d0 d1 d2 d3 d4 d5 d6 d7 d8
  obtain ⟨c0, c1, c2, c3, c4, c5, c6, c7, c8, cf⟩ := HCe.out.cellsY
  obtain ⟨s0, s1, s2, s3, s4, s5, s6, s7, s8, sf⟩ := (HCe.out.last ⟨9, j, c, m, (v : Int), p, fd, tl, cy⟩).cells
  dsimp only at s0 s1 s2 s3 s4 s5 s6 s7 s8
  clear HC2 
  go_wp2_with fail
  refine bodyPost_ret (v := .tuple #[(colV 9 j c m (v : Int) p fd tl cy), .bool true]) (by simp [results, Tryz.f44, go_sem, s0, s1, s2, s3, s4, s5, s6, s7, s8]) rfl ?_
  exact ⟨rfl, HCe.out.fin ⟨9, j, c, m, (v : Int), p, fd, tl, cy⟩⟩
set_option maxHeartbeats 3200000 in
theorem pStep_other {w : World} {H A G : Nat} {C : Cf} {s : Dy} (hH : HAt w H A G C s) (_ : s.U) (_ : SpansAt w) (_ : Right C.a C.b C.c C.d) (_ : 0 < C.n) (l j c m a p : Int) (fd : Bool) (tl cy : Int) (g3 : ¬ l = 3) (g4 : ¬ l = 4) (g5 : ¬ l = 5) (g6 : ¬ l = 6) (g7 : ¬ l = 7) (g8 : ¬ l = 8) (g9 : ¬ l = 9) :
    Calls Tryz.prog 44 #[.pointer (some ⟨H, 0, none⟩), (colV l j c m a p fd tl cy)] w (HP w H A G C s (.tuple #[(colV l j c m a p fd tl cy), .bool false])) := by
  have HF := Lib.hid hH
  have e3 : (l == 3) = false := by simpa using g3
  have e4 : (l == 4) = false := by simpa using g4
  have e5 : (l == 5) = false := by simpa using g5
  have e6 : (l == 6) = false := by simpa using g6
  have e7 : (l == 7) = false := by simpa using g7
  have e8 : (l == 8) = false := by simpa using g8
  have e9 : (l == 9) = false := by simpa using g9
  clear hH g3 g4 g5 g6 g7 g8 g9
  go_enter Tryz.func44, Tryz.ntmps44
  go_wp2_with fail
  refine bodyPost_ret (v := .tuple #[(colV l j c m a p fd tl cy), .bool false]) (by simp [results, Tryz.f44, go_sem]) rfl ?_
  refine ⟨rfl, HF.out.below (below_on (below_new _ _) _), Sav.of (below_on (below_new _ _) _)⟩
theorem pStep_nil (l j c m a p : Int) (fd : Bool) (tl cy : Int) (w : World) :
    Calls Tryz.prog 44 #[.pointer none, (colV l j c m a p fd tl cy)] w fun e w' => e = .returned (.tuple #[(colV l j c m a p fd tl cy), .bool false]) ∧ Below w.heap.size w w' := by
  go_enter Tryz.func44, Tryz.ntmps44
  go_wp2_with fail
  refine bodyPost_ret (v := .tuple #[(colV l j c m a p fd tl cy), .bool false]) (by simp [results, Tryz.f44, go_sem]) rfl ?_
  exact ⟨rfl, below_on (below_new _ _) _⟩
end Go.Proofs.YthdcapkchjamoaaGreatDoor
