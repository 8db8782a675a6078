/- ArenaPlays answers true for every row of words and every row of accesses: whatever accesses are done, each answer, and all words then, are as the document says. -/
import Derived.Test.YtnklmklknphojaaArenaRefDo
import Derived.Test.YtnklmklknphojaaArenaPlay
import Derived.Test.YtnklmklknphojaaArenaAccs
namespace Go.Proofs.Ytnklmklknphojaa
open Go Go.RowKit
set_option maxRecDepth 100000

theorem CellsAt.other {w w' : World} {b off : Nat} {q : Acc} (h : CellsAt w b off q) (e : w'.heap[b]? = w.heap[b]?) : CellsAt w' b off q := by
  have key : ∀ z, w'.cell? ⟨b, z, none⟩ = w.cell? ⟨b, z, none⟩ := fun z => World.cell?_of_block (w := w) (a := ⟨b, z, none⟩) e
  exact ⟨(key _).trans h.1, (key _).trans h.2.1, (key _).trans h.2.2.1, (key _).trans h.2.2.2.1, (key _).trans h.2.2.2.2⟩
/-- One access, done by the arena and by the document: the same answer, and the same words. -/
structure OneAct (A G : Nat) (a : Option Addr) (n cap N : Nat) (f : Nat → Int) (q q' : Acc) (b : Bool) (f' : Nat → Int) : Prop where
  u : ∀ j, U64 (f' j)
  act : ∀ W, ArenaAt W A G n f → Calls Try.prog 10 #[.pointer (some ⟨A, 0, none⟩), accV q.k q.i q.x q.y q.o] W (DoPost W A G n f' (accV q'.k q'.i q'.x q'.y q'.o) b)
  ref : ∀ W, MineAt N W a n f → Calls Try.prog 11 #[.slice a n cap, accV q.k q.i q.x q.y q.o] W fun e w' => e = .returned (.tuple #[accV q'.k q'.i q'.x q'.y q'.o, .bool b]) ∧ MineAt N w' a n f' ∧ OnlyO a W w'
theorem doF_u64 {f : Nat → Int} (hf : ∀ j, U64 (f j)) (k : Int) (j : Nat) {x y : Int} (hx : U64 x) (hy : U64 y) (i : Nat) : U64 (doF f k j x y i) := by
  have up : ∀ z, U64 z → U64 (upd f j z i) := fun z hz => by
    unfold upd
    by_cases e : i = j
    · rw [if_pos e]; exact hz
    · rw [if_neg e]; exact hf i
  unfold doF
  by_cases h2 : k = 2
  · rw [if_pos h2]; exact up x hx
  · rw [if_neg h2]
    by_cases h3 : k = 3
    · rw [if_pos h3]
      by_cases e : f j = x
      · rw [if_pos e]; exact up y hy
      · rw [if_neg e]; exact hf i
    · rw [if_neg h3]
      by_cases h4 : k = 4
      · rw [if_pos h4]; exact up _ (sumW_u64 _ _)
      · rw [if_neg h4]; exact hf i
theorem oneAct (A G : Nat) (a : Option Addr) (n cap N : Nat) (f : Nat → Int) (hf : ∀ j, U64 (f j)) (q : Acc) (hx : U64 q.x) (hy : U64 q.y) : ∃ q' b f', OneAct A G a n cap N f q q' b f' := by
  by_cases hg : 1 ≤ q.k ∧ q.k ≤ 4 ∧ 0 ≤ q.i ∧ q.i < n
  · obtain ⟨j, hj⟩ : ∃ j : Nat, q.i = j := ⟨q.i.toNat, by omega⟩
    have hjn : j < n := by omega
    refine ⟨⟨q.k, j, q.x, q.y, f j⟩, true, doF f q.k j q.x q.y, doF_u64 hf _ _ hx hy, fun W hW => ?_, fun W hW => ?_⟩
    · rw [hj]; exact Do_good hW q.k j hjn q.x q.y q.o (by omega) (hf j)
    · rw [hj]
      rcases hW with e | ⟨R, rfl, hR, hr⟩
      · omega
      · exact (RefDo_good hr q.k j hjn q.x q.y q.o (by omega)).mono fun e w' ⟨h1, h2, h3⟩ => ⟨h1, .inr ⟨R, rfl, hR, h2⟩, h3.os, h3.tape, h3.output, h3.size, fun k hk ne => h3.block k hk (fun e => ne (by rw [e]))⟩
  · refine ⟨⟨0, 0, 0, 0, 0⟩, false, f, hf, fun W hW => Do_bad hW q.k q.i q.x q.y q.o hg, fun W hW => ?_⟩
    exact (RefDo_bad a n cap W q.k q.i q.x q.y q.o hg).mono fun e w' ⟨h1, h2⟩ => ⟨h1, hW.below h2, h2.os, h2.tape, h2.output, h2.size, fun k hk _ => h2.block k hk⟩
theorem plays_long (a : Option Addr) (n cap : Nat) (a2 : Option Addr) (m c2 : Nat) (h : 60 < n ∨ 60 < m) (hn : n ≤ 9223372036854775807) (hm : m ≤ 9223372036854775807) (w : World) :
    Calls Try.prog 3 #[.slice a n cap, .slice a2 m c2] w fun e w' => e = .returned (.bool true) ∧ Below w.heap.size w w' := by
  by_cases h1 : 60 < n
  · clear h
    go_enter Try.func3, Try.ntmps3
    go_wp2_with fail
    refine (awake_c _).mono ?_
    rintro e W ⟨rfl, hb⟩
    go_wp2_with fail
    go_ret
    exact ⟨rfl, hb⟩
  · have h2 : 60 < m := by omega
    clear h
    go_enter Try.func3, Try.ntmps3
    go_wp2_with fail
    refine (awake_c _).mono ?_
    rintro e W ⟨rfl, hb⟩
    go_wp2_with fail
    go_ret
    exact ⟨rfl, hb⟩
set_option maxHeartbeats 12800000 in
theorem plays_short (a : Option Addr) (n cap : Nat) (f : Nat → Int) (a2 : Option Addr) (m c2 : Nat) (g : Nat → Acc) (hn : n ≤ 60) (hm : m ≤ 60) (w : World) (hG : Given w a n cap f) (hG2 : GivenAccs w a2 m g) :
    Calls Try.prog 3 #[.slice a n cap, .slice a2 m c2] w fun e w' => e = .returned (.bool true) ∧ Below w.heap.size w w' := by
  have HG := Lib.hid hG; have HG2 := Lib.hid hG2; clear hG hG2
  go_enter Try.func3, Try.ntmps3
  go_wp2_with fail
  refine (awake_c _).mono ?_
  rintro e W0 ⟨rfl, hb0⟩
  have HB0 := Lib.hid hb0; clear hb0
  go_wp2_with fail
  refine (New_c a n cap f hn W0 (HG.out.2.1.below HB0.out)).mono ?_
  rintro e W1 ⟨rfl, hA1, hb1⟩
  have HA1 := Lib.hid hA1; have HB1 := Lib.hid (belowOn HB0.out hb1); clear hA1 hb1
  have hs0 : w.heap.size ≤ W0.heap.size := HB0.out.size
  go_wp2_with fail
  refine (Copy_c a n cap f hn W1 (HG.out.2.1.below HB1.out) HG.out.2.2.2).mono ?_
  rintro e W2 ⟨b, c, rfl, hb2, hM, hap⟩
  have HP : Hid (Play w W2 (W0.heap.size + 1) W0.heap.size b n W1.heap.size W2.heap.size f f) := Lib.hid ⟨belowOn HB1.out hb2, HA1.out.below hb2, hM, Nat.le_refl _, hs0, fun R e => by
    have h1 := hap R e; have h2 := HA1.out.lt; have h3 := HA1.out.row.lt
    exact ⟨by omega, by omega, by omega, h1.2⟩⟩
  have HU := Lib.hid HG.out.2.2.1
  clear HA1 HB0 HB1 hb2 hM hap hs0 HG
  generalize W0.heap.size + 1 = A at *
  generalize W0.heap.size = G at *
  generalize W1.heap.size = N at *
  generalize W2.heap.size = M at *
  go_wp2_with fail
  go_loopw [7] (fun vi wr => ∃ (k : Nat), vi = .int .i64 k ∧ k ≤ m ∧ Hid (∃ f, Play w wr A G b n N M f f ∧ ∀ j, U64 (f j))) (fun vi _ => m - (intOf vi).toNat)
  case atStart => exact ⟨0, rfl, Nat.zero_le _, Lib.hid ⟨f, HP.out, HU.out⟩⟩
  case round =>
    clear HP HU f
    obtain ⟨k, rfl, hk, HF⟩ := hrel
    obtain ⟨f, hP, hU⟩ := HF.out
    have HP := Lib.hid hP
    have HA := Lib.hid (HG2.out.2.1.below hP.old)
    by_cases hlt : k < m
    · obtain ⟨b2, off, rfl, hb2, hc⟩ := HA.out.at' hlt
      obtain ⟨hx, hy⟩ := HG2.out.2.2 k hlt
      obtain ⟨q', ok, f', hO⟩ := oneAct A G b n c N f hU (g k) hx hy
      have HO := Lib.hid hO
      have HC := Lib.hid hc
      have HD := Lib.hid (hO.act wr hP.ar)
      have hbs : b2 < w.heap.size := by
        rcases HG2.out.2.1 with h | ⟨b0, o0, h1, h2, _⟩
        · omega
        · simp only [Option.some.injEq, Addr.mk.injEq] at h1; rw [h1.1]; exact h2
      generalize g k = q at *
      clear hc hO hx hy hP hU HF HA HG2
      obtain ⟨k', i', x', y', o'⟩ := q'
      obtain ⟨c0, c1, c2, c3, c4⟩ := HC.out
      go_wp2_with fail
      refine HD.out.mono ?_
      rintro e V1 ⟨rfl, hA1, ho⟩
      have HP1 := Lib.hid (HP.out.act ho hA1)
      have HC1 := Lib.hid (HC.out.other (ho.block b2 hb2 (by have := HP.out.g0; omega)))
      have hb3 : b2 < V1.heap.size := by have := ho.size; omega
      have hne3 : b2 ≠ V1.heap.size := by omega
      have HR := Lib.hid (HO.out.ref (V1.alloc (.cells #[.int .i64 k', .int .i64 i', .int .u64 x', .int .u64 y', .int .u64 o'] 31)) (HP1.out.below (below_new _ _)).mine)
      clear hA1 ho HD HC HP c0 c1 c2 c3 c4 hb2
      obtain ⟨c0, c1, c2, c3, c4⟩ := HC1.out
      go_wp2_with fail
      refine HR.out.mono ?_
      rintro e V2 ⟨rfl, hm2, ho2⟩
      have HP2 := Lib.hid ((HP1.out.below (below_new V1 (.cells #[.int .i64 k', .int .i64 i', .int .u64 x', .int .u64 y', .int .u64 o'] 31))).ref ho2 hm2)
      have HX := Lib.hid ((Acc5.new V1 k' i' x' y' o').other (ho2.block V1.heap.size (by simp) (fun e => by have := (HP1.out.apart _ e).2.2.2; have := HP1.out.big; omega)))
      have hv : V1.heap.size < V2.heap.size := HX.out.lt
      have hvn : V1.heap.size ≠ V2.heap.size := by omega
      have HL := Lib.hid (All_c (HP2.out.below (below_new V2 (.cells #[.int .i64 k', .int .i64 i', .int .u64 x', .int .u64 y', .int .u64 o'] 31))).ar hn)
      have HP3 := Lib.hid (HP2.out.below (below_new V2 (.cells #[.int .i64 k', .int .i64 i', .int .u64 x', .int .u64 y', .int .u64 o'] 31)))
      have HU := Lib.hid HO.out.u
      clear HR hm2 ho2 c0 c1 c2 c3 c4 HC1 HP1 HP2 HO hb3 hne3
      obtain ⟨d0, d1, d2, d3, d4, df⟩ := HX.out.cells
      clear df
      go_wp2_with fail
      refine HL.out.mono ?_
      rintro e V3 ⟨rfl, hrow, hb5⟩
      have HP4 := Lib.hid (HP3.out.below hb5)
      have HS := Lib.hid (Same_c _ b n n c f' hn V3 hrow.words HP4.out.mine.words)
      rw [show (V2.alloc (.cells #[.int .i64 k', .int .i64 i', .int .u64 x', .int .u64 y', .int .u64 o'] 31)).heap.size = V2.heap.size + 1 by simp] at HS
      clear hrow hb5 HP3 HL d0 d1 d2 d3 d4 HX
      go_wp2_with fail
      refine HS.out.mono ?_
      rintro e V4 ⟨rfl, hb6⟩
      have HP5 := Lib.hid (HP4.out.below hb6)
      clear hb6 HS HP4
      go_wp2_with fail
      go_roundw
      case rel => exact ⟨k + 1, by go_num, by omega, Lib.hid ⟨f', HP5.out, HU.out⟩⟩
      case measure => simp [intOf]; omega
    · obtain rfl : k = m := by omega
      have HL := Lib.hid (Len_c hP.ar)
      clear hP hU HF HA HG2
      go_wp2_with fail
      refine HL.out.mono ?_
      rintro e V ⟨rfl, rfl⟩
      go_wp2_with fail
      go_ret
      exact ⟨rfl, HP.out.old⟩
theorem plays_any (a : Option Addr) (n cap : Nat) (f : Nat → Int) (a2 : Option Addr) (m c2 : Nat) (g : Nat → Acc) (w : World) (h : Given w a n cap f) (h2 : GivenAccs w a2 m g) :
    Calls Try.prog 3 #[.slice a n cap, .slice a2 m c2] w fun e w' => e = .returned (.bool true) ∧ Below w.heap.size w w' := by
  by_cases hn : 60 < n ∨ 60 < m
  · exact plays_long a n cap a2 m c2 hn h.1 h2.1 w
  · exact plays_short a n cap f a2 m c2 g (by omega) (by omega) w h h2
end Go.Proofs.Ytnklmklknphojaa
