/- awake of mudlarklaw13; List of both, of any words. -/
import Derived.Test.YtgjbabndpmkccaaDoorPopInts
import Derived.Test.YtgjbabndpmkccaaDoorPopRefList
import Derived.Test.YtgjbabndpmkccaaDoorPopRef
import Derived.Test.YtgjbabndpmkccaaDoorTwo
namespace Go.Proofs.YtgjbabndpmkccaaDoor
open Go Go.RowKit
set_option maxRecDepth 100000
attribute [local go_sem ↓] Go.wp_at_zero Go.wp_at_succ

theorem right3 : Right 3 1 1 0 := by unfold Right; omega
theorem list3 : listF (nxF 1 1 0 (fstV 3 1 1 0)) (Int.toNat 3) (fstV 3 1 1 0 0) = some [0, 1, 2] := by decide
/-- The free list of any words of any configuration, or that there is none. -/
def lstR (a b c d : Int) (n : Nat) (f : Nat → Int) : Option (List Nat) :=
  if Right a b c d ∧ (n : Int) = 5 + b + d + b * c + 3 * a then listF (nxF b c d f) a.toNat (f 0) else none
theorem list_any (a b c d : Int) (va : Option Addr) (n c0 : Nat) (f : Nat → Int) (hu : ∀ j, U64 (f j)) (w : World) (hS : SpansAt w) (hW : WordsAt w va n f) :
    Calls Tryd.prog 13 #[.agg #[.int .i64 a, .int .i64 b, .int .i64 c, .int .i64 d], .slice va n c0] w (ListPost w (lstR a b c d n f)) := by
  unfold lstR
  by_cases hr : Right a b c d
  · by_cases hn : (n : Int) = 5 + b + d + b * c + 3 * a
    · rw [if_pos ⟨hr, hn⟩]; exact list_right a b c d hr va n c0 f hn hu w hS hW
    · rw [if_neg (fun h => hn h.2)]; exact list_len a b c d hr va n c0 hn w hS
  · rw [if_neg (fun h => hr h.1)]; exact list_wrong a b c d hr va n c0 w hS
theorem rlist_any (a b c d : Int) (va : Option Addr) (n c0 : Nat) (f : Nat → Int) (hu : ∀ j, U64 (f j)) (w : World) (hW : WordsAt w va n f) :
    Calls Tryd.prog 14 #[.agg #[.int .i64 a, .int .i64 b, .int .i64 c, .int .i64 d], .slice va n c0] w (ListPost w (lstR a b c d n f)) := by
  unfold lstR
  by_cases hr : Right a b c d
  · by_cases hn : (n : Int) = 5 + b + d + b * c + 3 * a
    · rw [if_pos ⟨hr, hn⟩]; exact rlist_right a b c d hr va n c0 f hn hu w hW
    · rw [if_neg (fun h => hn h.2)]; exact rlist_len a b c d hr va n c0 hn w
  · rw [if_neg (fun h => hr h.1)]; exact rlist_wrong a b c d hr va n c0 w
/-- What lstR tells: a list of unlike cells, at least one, of a right configuration with as many words. -/
theorem lstR_some {a b c d : Int} {n : Nat} {f : Nat → Int} {L : List Nat} (h : lstR a b c d n f = some L) : Right a b c d ∧ (n : Int) = 5 + b + d + b * c + 3 * a ∧ ChainL (nxF b c d f) a.toNat (f 0) L ∧ L ≠ [] := by
  unfold lstR at h
  by_cases e : Right a b c d ∧ (n : Int) = 5 + b + d + b * c + 3 * a
  · rw [if_pos e] at h
    exact ⟨e.1, e.2, listF_some.1 h⟩
  · rw [if_neg e] at h; cases h
theorem lstR_len {a b c d : Int} {n : Nat} {f : Nat → Int} : ((lstR a b c d n f).getD []).length ≤ 20000 := by
  cases h : lstR a b c d n f with
  | none => simp
  | some L =>
    obtain ⟨h1, _, h3, _⟩ := lstR_some h
    have := h3.length
    unfold Right at h1
    show L.length ≤ 20000
    omega
set_option maxHeartbeats 3200000 in
theorem awake_c (w : World) (hS : SpansAt w) :
    Calls Tryd.prog 7 #[] w fun e w' => e = .returned (.bool true) ∧ Below w.heap.size w w' := by
  have HN : Hid (∀ W, Calls Tryd.prog _ _ W (FirstNew W 3 1 1 0)) := Lib.hid (fun W => refFirst_new 3 1 1 0 right3 W)
  have HL : Hid (∀ va c0 W, SpansAt W → WordsAt W va 16 (fstV 3 1 1 0) → Calls Tryd.prog 13 #[.agg #[.int .i64 3, .int .i64 1, .int .i64 1, .int .i64 0], .slice va 16 c0] W (ListPost W (some [0, 1, 2]))) := Lib.hid (fun va c0 W h1 h2 => by have := list_right 3 1 1 0 right3 va 16 c0 (fstV 3 1 1 0) (by omega) (fst_u64 right3) W h1 h2; rw [list3] at this; exact this)
  have HS := Lib.hid hS
  have HB0 := Lib.hid (below_new w (.cells #[.int .i64 3, .int .i64 1, .int .i64 1, .int .i64 0] 23))
  have HX0 := Lib.hid (BoxAt.new w 3 1 1 0 23)
  obtain ⟨x0, x1, x2, x3⟩ := HX0.out
  clear hS
  go_enter Tryd.func7, Tryd.ntmps7
  go_wp2_with fail
  refine wp_region_held_drew (S := (fun w' => BoxAt w' w.heap.size 3 1 1 0)) (by kernel_rfl) ?_ (fun hHeld => ?_)
  · exact ⟨x0, x1, x2, x3⟩
  refine wpAnyH_take (i := 0) (oi := { dst := some 6, op := Op.load 23 (Operand.tmp 1), type := 23, pos := "law.go:18", after := #[], guard := none }) (v := ?vq0) rfl (by kernel_rfl) (by kernel_rfl) (by kernel_rfl) (fun _ _ _ h => h) (Or.inl ⟨by rfl, ?hyq0⟩) hHeld ?_
  case hyq0 => (intro w hSw; (try dsimp only at hSw); go_simp; (try with_reducible rfl))
  try simp only [Act.put, List.setIfInBounds_toArray, List.set_cons_zero, List.set_cons_succ]
  refine wpAnyH_take (i := 1) (oi := { dst := some 7, op := Op.load 23 (Operand.tmp 1), type := 23, pos := "law.go:18", after := #[], guard := none }) (v := ?vq1) rfl (by kernel_rfl) (by kernel_rfl) (by kernel_rfl) (fun _ _ _ h => h) (Or.inl ⟨by rfl, ?hyq1⟩) hHeld ?_
  case hyq1 => (intro w hSw; (try dsimp only at hSw); go_simp; (try with_reducible rfl))
  try simp only [Act.put, List.setIfInBounds_toArray, List.set_cons_zero, List.set_cons_succ]
  refine wpAnyH_ready (rs := [2]) (by kernel_rfl) (by simp) ?_
  refine AllReadyH.cons (o := { dst := some 8, op := Op.call { callee := Callee.value (Operand.func 20), args := #[Operand.tmp 7], argTypes := #[23] }, type := 24, pos := "law.go:18", after := #[{ on := 1, ground := Ground.data }], guard := none }) rfl (fun K hK => ?_) AllReadyH.nil
  go_simp
  refine (HN.out _).mono ?_
  rintro e V1 ⟨g, n, rfl, hn, hrow, hW, _⟩
  obtain rfl : n = 16 := by omega
  have HB1 := Lib.hid (belowOn HB0.out.drew hW)
  have HX1 := Lib.hid ((show BoxAt (w.alloc (.cells #[.int .i64 3, .int .i64 1, .int .i64 1, .int .i64 0] 23)).drew w.heap.size 3 1 1 0 from HX0.out).below hW)
  have HR1 := Lib.hid (row_words hrow)
  clear hn hrow hW HB0 HX0 HN x0 x1 x2 x3 hHeld
  obtain ⟨x0, x1, x2, x3⟩ := HX1.out
  refine hK.out _ _ ?_ (fun hHeld => ?_)
  · exact ⟨x0, x1, x2, x3⟩
  clear hK K
  try simp only [Act.put, List.setIfInBounds_toArray, List.set_cons_zero, List.set_cons_succ]
  refine wpAnyH_ready (rs := [3]) (by kernel_rfl) (by simp) ?_
  refine AllReadyH.cons (o := { dst := some 9, op := Op.call { callee := Callee.value (Operand.func 13), args := #[Operand.tmp 6, Operand.tmp 8], argTypes := #[23, 24] }, type := 43, pos := "law.go:18", after := #[{ on := 0, ground := Ground.data }, { on := 2, ground := Ground.data }, { on := 2, ground := Ground.chain }], guard := none }) rfl (fun K hK => ?_) AllReadyH.nil
  go_simp
  refine (HL.out _ _ _ (HS.out.below HB1.out) HR1.out).mono ?_
  rintro e V2 ⟨v, rfl, hrow, hW⟩
  rw [show ((some [0, 1, 2] : Option (List Nat)).isSome) = true from rfl]
  have HB2 := Lib.hid (belowOn HB1.out hW)
  have HX2 := Lib.hid (HX1.out.below hW)
  have HR2 := Lib.hid (show V2.ownsRow V1.heap.size 3 1 v 3 (intsV [0, 1, 2]) from hrow)
  clear hrow hW HB1 HX1 HR1 HL x0 x1 x2 x3 hHeld
  obtain ⟨x0, x1, x2, x3⟩ := HX2.out
  refine hK.out _ _ ?_ (fun hHeld => ?_)
  · exact ⟨x0, x1, x2, x3⟩
  clear hK K
  try simp only [Act.put, List.setIfInBounds_toArray, List.set_cons_zero, List.set_cons_succ]
  refine wpAnyH_take (i := 4) (oi := { dst := some 5, op := Op.move (Operand.tmp 9), type := 43, pos := "law.go:18", after := #[{ on := 3, ground := Ground.data }], guard := none }) (v := ?vq4) rfl (by kernel_rfl) (by kernel_rfl) (by kernel_rfl) (fun _ _ _ h => h) (Or.inl ⟨by rfl, ?hyq4⟩) hHeld ?_
  case hyq4 => (intro w hSw; (try dsimp only at hSw); go_simp; (try with_reducible rfl))
  try simp only [Act.put, List.setIfInBounds_toArray, List.set_cons_zero, List.set_cons_succ]
  refine wpAnyH_take (i := 5) (oi := { dst := some 10, op := Op.extract (Operand.tmp 5) 0, type := 42, pos := "law.go:18", after := #[{ on := 4, ground := Ground.data }], guard := none }) (v := ?vq5) rfl (by kernel_rfl) (by kernel_rfl) (by kernel_rfl) (fun _ _ _ h => h) (Or.inl ⟨by rfl, ?hyq5⟩) hHeld ?_
  case hyq5 => (intro w hSw; (try dsimp only at hSw); go_simp; (try with_reducible rfl))
  try simp only [Act.put, List.setIfInBounds_toArray, List.set_cons_zero, List.set_cons_succ]
  refine wpAnyH_take (i := 6) (oi := { dst := some 11, op := Op.extract (Operand.tmp 5) 1, type := 4, pos := "law.go:18", after := #[{ on := 4, ground := Ground.data }, { on := 7, ground := Ground.gcOnly Departure.lateStores }], guard := none }) (v := ?vq6) rfl (by kernel_rfl) (by kernel_rfl) (by kernel_rfl) (fun _ _ _ h => h) (Or.inl ⟨by rfl, ?hyq6⟩) hHeld ?_
  case hyq6 => (intro w hSw; (try dsimp only at hSw); go_simp; (try with_reducible rfl))
  try simp only [Act.put, List.setIfInBounds_toArray, List.set_cons_zero, List.set_cons_succ]
  refine wpAnyH_take (i := 7) (oi := { dst := some 2, op := Op.assign (Operand.tmp 10), type := 42, pos := "law.go:18", after := #[{ on := 5, ground := Ground.data }, { on := 3, ground := Ground.chain }, { on := 0, ground := Ground.phase }, { on := 1, ground := Ground.phase }, { on := 2, ground := Ground.phase }, { on := 3, ground := Ground.phase }, { on := 4, ground := Ground.phase }, { on := 5, ground := Ground.phase }, { on := 6, ground := Ground.textOnly Departure.lateStores }], guard := none }) (v := ?vq7) rfl (by kernel_rfl) (by kernel_rfl) (by kernel_rfl) (fun _ _ _ h => h) (Or.inl ⟨by rfl, ?hyq7⟩) hHeld ?_
  case hyq7 => (intro w hSw; (try dsimp only at hSw); go_simp; (try with_reducible rfl))
  try simp only [Act.put, List.setIfInBounds_toArray, List.set_cons_zero, List.set_cons_succ]
  refine wpAnyH_take (i := 8) (oi := { dst := some 3, op := Op.assign (Operand.tmp 11), type := 4, pos := "law.go:18", after := #[{ on := 6, ground := Ground.data }, { on := 7, ground := Ground.chain }, { on := 0, ground := Ground.phase }, { on := 1, ground := Ground.phase }, { on := 2, ground := Ground.phase }, { on := 3, ground := Ground.phase }, { on := 4, ground := Ground.phase }, { on := 5, ground := Ground.phase }, { on := 6, ground := Ground.phase }, { on := 7, ground := Ground.phase }], guard := none }) (v := ?vq8) rfl (by kernel_rfl) (by kernel_rfl) (by kernel_rfl) (fun _ _ _ h => h) (Or.inl ⟨by rfl, ?hyq8⟩) hHeld ?_
  case hyq8 => (intro w hSw; (try dsimp only at hSw); go_simp; (try with_reducible rfl))
  try simp only [Act.put, List.setIfInBounds_toArray, List.set_cons_zero, List.set_cons_succ]
  refine wpAnyH_done (by kernel_rfl) ?_ _
  clear hHeld HX2 x0 x1 x2 x3
  obtain ⟨a, cap, rfl, hIn, _, _, _⟩ := IntsAt.own (L := [0, 1, 2]) HR2.out
  have HI : Hid (∀ W a2 c2, IntsAt W a [0, 1, 2] → IntsAt W a2 [0, 1, 2] → Calls Tryd.prog 15 #[.slice a 3 cap, .slice a2 3 c2] W fun e w' => e = .returned (.bool true) ∧ Below W.heap.size W w') := Lib.hid (fun W a2 c2 h1 h2 => ints_c [0, 1, 2] (by decide) a a2 cap c2 W h1 h2)
  have HA := Lib.hid (hIn.below (below_new V2 (.cells #[.int .i64 0, .int .i64 1, .int .i64 2] 3)))
  have HC : Hid (IntsAt (V2.alloc (.cells #[.int .i64 0, .int .i64 1, .int .i64 2] 3)) (some ⟨V2.heap.size, 0, none⟩) [0, 1, 2]) := Lib.hid (.inr ⟨V2.heap.size, 0, rfl, by simp, fun j hj => by
    have h0 : (V2.alloc (.cells #[.int .i64 0, .int .i64 1, .int .i64 2] 3)).heap[V2.heap.size]? = some (.cells #[.int .i64 0, .int .i64 1, .int .i64 2] 3) := newBlock _ _
    have hj3 : j < 3 := hj
    rw [Nat.zero_add]
    rcases (by omega : j = 0 ∨ j = 1 ∨ j = 2) with rfl | rfl | rfl
    all_goals (simp only [World.cell?]; rw [h0]; rfl)⟩)
  rw [show [0, 1, 2].length = 3 from rfl]
  clear hIn HR2
  go_wp2_with fail
  refine (HI.out _ _ _ HA.out HC.out).mono ?_
  rintro e V3 ⟨rfl, hW⟩
  have HB3 := Lib.hid (belowOn (below_on HB2.out _) hW)
  clear hW HA HC HB2 HI
  go_wp2_with fail
  go_ret
  exact ⟨rfl, HB3.out⟩
end Go.Proofs.YtgjbabndpmkccaaDoor
