/- ArenaAdds answers true for every word and every row of words: what is added comes together in whatever order, and a cas wins just if what it expects is there. -/
import Derived.Test.YtnklmklknphojaaArenaFrame
namespace Go.Proofs.Ytnklmklknphojaa
open Go Go.RowKit
set_option maxRecDepth 100000

/-- What is there when the first k words were added. -/
def sumTo (x : Int) (f : Nat → Int) : Nat → Int | 0 => x | k + 1 => sumW (sumTo x f k) (f k)
def plain (f : Nat → Int) : Nat → Int | 0 => 0 | k + 1 => plain f k + f k
theorem sumTo_u64 {x : Int} (hx : U64 x) (f : Nat → Int) (k : Nat) : U64 (sumTo x f k) := by
  cases k with
  | zero => exact hx
  | succ k => exact sumW_u64 _ _
theorem sumTo_plain {x : Int} (hx : U64 x) (f : Nat → Int) (k : Nat) : sumTo x f k = (x + plain f k) % 18446744073709551616 := by
  induction k with
  | zero => unfold sumTo plain; unfold U64 at hx; omega
  | succ k ih => unfold sumTo plain sumW; rw [ih]; omega
theorem plain_rev (f : Nat → Int) (n k : Nat) (hk : k ≤ n) : plain (fun j => f (n - 1 - j)) k = plain f n - plain f (n - k) := by
  induction k with
  | zero => simp [plain]
  | succ k ih =>
    have h : n - k = (n - (k + 1)) + 1 := by omega
    have e : plain f (n - k) = plain f (n - (k + 1)) + f (n - (k + 1)) := by rw [h]; rfl
    have e2 : n - 1 - k = n - (k + 1) := by omega
    show plain (fun j => f (n - 1 - j)) k + f (n - 1 - k) = _
    rw [ih (by omega), e, e2]; omega
theorem sumTo_rev {x : Int} (hx : U64 x) (f : Nat → Int) (n : Nat) : sumTo x (fun j => f (n - 1 - j)) n = sumTo x f n := by
  rw [sumTo_plain hx, sumTo_plain hx, plain_rev f n n (Nat.le_refl _), Nat.sub_self]
  simp [plain]
/-- Two arenas of one word. -/
structure Two (w wr : World) (A1 G1 A2 G2 : Nat) (x y : Int) : Prop where
  old : Below w.heap.size w wr
  one : ArenaAt wr A1 G1 1 (fun _ => x)
  two : ArenaAt wr A2 G2 1 (fun _ => y)
theorem Two.set1 {w wr : World} {A1 G1 A2 G2 : Nat} {x y : Int} (h : Two w wr A1 G1 A2 G2 x y) (hg : w.heap.size ≤ G1) (h1 : G1 ≠ A2) (h2 : G1 ≠ G2) (s : Int) : Two w (wr.setCell ⟨G1, 0, none⟩ (.int .u64 s)) A1 G1 A2 G2 s y :=
  ⟨h.old.setCell (p := ⟨G1, 0, none⟩) hg _, (h.one.set 0 s).congr (fun j hj => by obtain rfl : j = 0 := by omega
                                                                                  rfl), h.two.setOther (p := ⟨G1, 0, none⟩) h1 h2 _⟩
theorem Two.set2 {w wr : World} {A1 G1 A2 G2 : Nat} {x y : Int} (h : Two w wr A1 G1 A2 G2 x y) (hg : w.heap.size ≤ G2) (h1 : G2 ≠ A1) (h2 : G2 ≠ G1) (s : Int) : Two w (wr.setCell ⟨G2, 0, none⟩ (.int .u64 s)) A1 G1 A2 G2 x s :=
  ⟨h.old.setCell (p := ⟨G2, 0, none⟩) hg _, h.one.setOther (p := ⟨G2, 0, none⟩) h1 h2 _, (h.two.set 0 s).congr (fun j hj => by obtain rfl : j = 0 := by omega
                                                                                                                               rfl)⟩
theorem Add_one {A G : Nat} {x : Int} {w : World} (hA : ArenaAt w A G 1 (fun _ => x)) (hx : U64 x) (y : Int) :
    Calls Try.prog 18 #[.pointer (some ⟨A, 0, none⟩), .int .i64 0, .int .u64 y] w fun e w' => e = .returned (.int .u64 x) ∧ w' = w.setCell ⟨G, 0, none⟩ (.int .u64 (sumW x y)) :=
  Add_in hA 0 (by omega) hx y
theorem Load_one {A G : Nat} {x : Int} {w : World} (hA : ArenaAt w A G 1 (fun _ => x)) :
    Calls Try.prog 15 #[.pointer (some ⟨A, 0, none⟩), .int .i64 0] w fun e w' => e = .returned (.int .u64 x) ∧ w = w' :=
  Load_in hA 0 (by omega)
theorem New_one (x : Int) (w : World) : Calls Try.prog 8 #[.slice (some ⟨w.heap.size, 0, none⟩) 1 1] (w.alloc (.cells #[.int .u64 x] 29)) fun e w' =>
    e = .returned (.pointer (some ⟨w.heap.size + 2, 0, none⟩)) ∧ ArenaAt w' (w.heap.size + 2) (w.heap.size + 1) 1 (fun _ => x) ∧ Below w.heap.size w w' := by
  have hr : WordsAt (w.alloc (.cells #[.int .u64 x] 29)) (some ⟨w.heap.size, 0, none⟩) 1 (fun _ => x) :=
    .inr ⟨w.heap.size, 0, rfl, by simp, fun j hj => by
      obtain rfl : j = 0 := by omega
      exact World.cell?_alloc_new _ _ _ _⟩
  have h := New_c _ 1 1 _ (by omega) _ hr
  unfold NewPost at h
  rw [show (w.alloc (.cells #[.int .u64 x] 29)).heap.size = w.heap.size + 1 by simp] at h
  exact h.mono fun e w' ⟨h1, h2, h3⟩ => ⟨h1, h2, (below_new w (.cells #[.int .u64 x] 29)).trans (h3.mono (by omega))⟩
theorem adds_long (x : Int) (a : Option Addr) (n cap : Nat) (h : 60 < n) (hm : n ≤ 9223372036854775807) (w : World) :
    Calls Try.prog 6 #[.int .u64 x, .slice a n cap] w fun e w' => e = .returned (.bool true) ∧ Below w.heap.size w w' := by
  go_enter Try.func6, Try.ntmps6
  go_wp2_with fail
  refine (awake_c _).mono ?_
  rintro e W ⟨rfl, hb⟩
  go_wp2_with fail
  go_ret
  exact ⟨rfl, hb⟩
set_option maxHeartbeats 6400000 in
theorem adds_short (x : Int) (hx : U64 x) (a : Option Addr) (n cap : Nat) (f : Nat → Int) (hn : n ≤ 60) (w : World) (hr : WordsAt w a n f) :
    Calls Try.prog 6 #[.int .u64 x, .slice a n cap] w fun e w' => e = .returned (.bool true) ∧ Below w.heap.size w w' := by
  have HR := Lib.hid hr; have HX := Lib.hid hx; clear hr hx
  go_enter Try.func6, Try.ntmps6
  go_wp2_with fail
  refine (awake_c _).mono ?_
  rintro e W0 ⟨rfl, hb0⟩
  have HB0 := Lib.hid hb0; clear hb0
  go_wp2_with fail
  refine (New_one x W0).mono ?_
  rintro e W1 ⟨rfl, hA1, hb1⟩
  have HA1 := Lib.hid hA1; have HB1 := Lib.hid hb1; clear hA1 hb1
  go_wp2_with fail
  refine (New_one x W1).mono ?_
  rintro e W2 ⟨rfl, hA2, hb2⟩
  have HT : Hid (Two w W2 (W0.heap.size + 2) (W0.heap.size + 1) (W1.heap.size + 2) (W1.heap.size + 1) x x) := Lib.hid ⟨belowOn (belowOn HB0.out HB1.out) hb2, HA1.out.below hb2, hA2⟩
  have hs0 : w.heap.size ≤ W0.heap.size := HB0.out.size
  have hs1 : W0.heap.size + 2 < W1.heap.size := HA1.out.lt
  clear HA1 HB0 HB1 hA2 hb2
  generalize hA1 : W0.heap.size + 2 = A1 at *
  generalize hG1 : W0.heap.size + 1 = G1 at *
  generalize hA2 : W1.heap.size + 2 = A2 at *
  generalize hG2 : W1.heap.size + 1 = G2 at *
  have g1 : w.heap.size ≤ G1 := by omega
  have g2 : w.heap.size ≤ G2 := by omega
  have n1 : G1 ≠ A2 := by omega
  have n2 : G1 ≠ G2 := by omega
  have n3 : G2 ≠ A1 := by omega
  have n4 : G2 ≠ G1 := by omega
  clear hA1 hG1 hA2 hG2 hs0 hs1
  go_wp2_with fail
  go_loopw [7, 8] (fun vs vi wr => ∃ (k : Nat) (s : Int), vi = .int .i64 k ∧ k ≤ n ∧ vs = .int .u64 s ∧ Hid (s = sumTo x f k ∧ Two w wr A1 G1 A2 G2 s (sumTo x (fun j => f (n - 1 - j)) k))) (fun _ vi _ => n - (intOf vi).toNat)
  case atStart => exact ⟨0, x, rfl, Nat.zero_le _, rfl, Lib.hid ⟨rfl, HT.out⟩⟩
  case round =>
    clear HT
    obtain ⟨k, s, rfl, hk, rfl, HS⟩ := hrel
    obtain ⟨hs, hT⟩ := HS.out
    by_cases hlt : k < n
    · obtain ⟨m, hm⟩ : ∃ m : Nat, n - 1 - k = m := ⟨_, rfl⟩
      have hmn : m < n := by omega
      have hw1 : IntKind.i64.wrap ((n : Int) - 1) = (n : Int) - 1 := IntWalk.i64_in _ (by omega)
      have hw2 : IntKind.i64.wrap ((n : Int) - 1 - (k : Int)) = (m : Int) := by rw [show (n : Int) - 1 - (k : Int) = (m : Int) by omega]; exact IntWalk.i64_in _ (by omega)
      have hr0 := HR.out.below hT.old
      obtain ⟨b, off, rfl, hc⟩ := hr0.at' hlt
      obtain ⟨b', off', hbo, hc2⟩ := hr0.at' hmn
      simp only [Option.some.injEq, Addr.mk.injEq, and_true] at hbo
      obtain ⟨rfl, rfl⟩ := hbo
      have hu : U64 s := by rw [hs]; exact sumTo_u64 HX.out _ _
      have hs' : sumW s (f k) = sumTo x f (k + 1) := by rw [hs]; rfl
      have hq : sumTo x (fun j => f (n - 1 - j)) (k + 1) = sumW (sumTo x (fun j => f (n - 1 - j)) k) (f m) := by rw [← hm]; rfl
      have hu2 := sumTo_u64 HX.out (fun j => f (n - 1 - j)) k
      have H1 := Lib.hid (Add_one hT.one hu (f k))
      have hT1 := hT.set1 g1 n1 n2 (sumW s (f k))
      have H2 := Lib.hid (Add_one hT1.two hu2 (f m))
      have HN : Hid (sumW s (f k) = sumTo x f (k + 1) ∧ Two w ((wr.setCell ⟨G1, 0, none⟩ (.int .u64 (sumW s (f k)))).setCell ⟨G2, 0, none⟩ (.int .u64 (sumW (sumTo x (fun j => f (n - 1 - j)) k) (f m)))) A1 G1 A2 G2 (sumW s (f k)) (sumTo x (fun j => f (n - 1 - j)) (k + 1))) := Lib.hid ⟨hs', by
        rw [hq]; exact hT1.set2 g2 n3 n4 _⟩
      have hb2 : b < w.heap.size := by
        rcases HR.out with h | ⟨b0, o0, h1, h2, _⟩
        · omega
        · simp only [Option.some.injEq, Addr.mk.injEq] at h1; rw [h1.1]; exact h2
      have hcell2 : (wr.setCell ⟨G1, 0, none⟩ (.int .u64 (sumW s (f k)))).cell? ⟨b, off + m, none⟩ = some (.int .u64 (f m)) := (World.cell?_setCell_other wr _ _ _ (fun e => by simp only [Addr.mk.injEq] at e; omega)).trans hc2
      have hcell1 : (wr.setCell ⟨G1, 0, none⟩ (.int .u64 (sumW s (f k)))).cell? ⟨b, off + k, none⟩ = some (.int .u64 (f k)) := (World.cell?_setCell_other wr _ _ _ (fun e => by simp only [Addr.mk.injEq] at e; omega)).trans hc
      have hws := wrap_sum s (f k)
      generalize sumW (sumTo x (fun j => f (n - 1 - j)) k) (f m) = t at *
      generalize sumTo x (fun j => f (n - 1 - j)) k = y at *
      generalize sumW s (f k) = s2 at *
      generalize f k = u at *
      generalize f m = v at *
      clear hs hT hT1 hs' hq hu hu2 hc2 hr0 hb2 HS hm
      go_wp2_with fail
      refine H1.out.mono ?_
      rintro e w' ⟨rfl, rfl⟩
      clear hc H1
      go_wp2_with fail
      refine H2.out.mono ?_
      rintro e w' ⟨rfl, rfl⟩
      clear H2 hcell1 hcell2
      go_wp2_with fail
      go_roundw
      case rel => exact ⟨k + 1, s2, by go_num, by omega, rfl, HN⟩
      case measure => simp [intOf]; omega
    · obtain rfl : k = n := by omega
      have hT' : Two w wr A1 G1 A2 G2 s s := by rw [sumTo_rev HX.out, ← hs] at hT; exact hT
      have HL1 := Lib.hid (Load_one hT'.one)
      have HL2 := Lib.hid (Load_one hT'.two)
      have HT := Lib.hid hT'
      clear hs hT hT' HS
      go_wp2_with fail
      refine HL1.out.mono ?_
      rintro e w' ⟨rfl, rfl⟩
      go_wp2_with fail
      refine HL2.out.mono ?_
      rintro e w' ⟨rfl, rfl⟩
      by_cases he : s = x
      · subst he
        have HC : Hid (Calls Try.prog 17 #[.pointer (some ⟨A1, 0, none⟩), .int .i64 0, .int .u64 s, .int .u64 7] wr fun e w' => e = .returned (.bool true) ∧ w' = wr.setCell ⟨G1, 0, none⟩ (.int .u64 7)) := Lib.hid (Cas_hit HT.out.one 0 (by omega) 7)
        have HT2 := Lib.hid (HT.out.set1 g1 n1 n2 7)
        have HL3 := Lib.hid (Load_one HT2.out.one)
        clear HT HL1 HL2
        go_wp2_with fail
        refine HC.out.mono ?_
        rintro e w' ⟨rfl, rfl⟩
        go_wp2_with fail
        refine HL3.out.mono ?_
        rintro e w' ⟨rfl, rfl⟩
        go_wp2_with fail
        go_ret
        exact ⟨rfl, HT2.out.old⟩
      · have HC : Hid (Calls Try.prog 17 #[.pointer (some ⟨A1, 0, none⟩), .int .i64 0, .int .u64 x, .int .u64 7] wr fun e w' => e = .returned (.bool false) ∧ wr = w') := Lib.hid (Cas_miss HT.out.one 0 (by omega) x 7 he)
        have hq : (s == x) = false := by rw [beq_eq_false_iff_ne]; exact he
        clear HL2 he
        cases h7 : (s == 7) with
        | true =>
          obtain rfl : s = 7 := by simpa using h7
          go_wp2_with fail
          refine HC.out.mono ?_
          rintro e w' ⟨rfl, rfl⟩
          go_wp2_with fail
          refine HL1.out.mono ?_
          rintro e w' ⟨rfl, rfl⟩
          go_wp2_with fail
          go_ret
          exact ⟨rfl, HT.out.old⟩
        | false =>
          go_wp2_with fail
          refine HC.out.mono ?_
          rintro e w' ⟨rfl, rfl⟩
          go_wp2_with fail
          refine HL1.out.mono ?_
          rintro e w' ⟨rfl, rfl⟩
          go_wp2_with fail
          go_ret
          exact ⟨rfl, HT.out.old⟩
theorem adds_any (x : Int) (hx : U64 x) (a : Option Addr) (n cap : Nat) (f : Nat → Int) (w : World) (h : Given w a n cap f) :
    Calls Try.prog 6 #[.int .u64 x, .slice a n cap] w fun e w' => e = .returned (.bool true) ∧ Below w.heap.size w w' := by
  by_cases hn : n ≤ 60
  · exact adds_short x hx a n cap f hn w h.2.1
  · exact adds_long x a n cap (by omega) h.1 w
end Go.Proofs.Ytnklmklknphojaa
