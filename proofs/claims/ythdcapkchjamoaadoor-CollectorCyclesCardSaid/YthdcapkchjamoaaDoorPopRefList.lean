/- The document's List of layer 13, of any words. -/
import Derived.Test.YthdcapkchjamoaaDoorM14
import Derived.Test.YthdcapkchjamoaaDoorM4
import Derived.Test.YthdcapkchjamoaaDoorPlaceRef
import Derived.Test.YthdcapkchjamoaaDoorM5
namespace Go.Proofs.YthdcapkchjamoaaDoor
open Go Go.RowKit
set_option maxRecDepth 100000
attribute [local go_sem ↓] Go.wp_at_zero Go.wp_at_succ

theorem rlist_wrong (a b c d : Int) (hr : ¬ Right a b c d) (va : Option Addr) (n c0 : Nat) (w : World) :
    Calls Tryd.prog 6 #[.agg #[.int .i64 a, .int .i64 b, .int .i64 c, .int .i64 d], .slice va n c0] w (ListPost w none) := by
  have HB0 := Lib.hid (below_new w (.cells #[.int .i64 a, .int .i64 b, .int .i64 c, .int .i64 d] 23))
  have HX0 := Lib.hid (BoxAt.new w a b c d 23)
  have HN := Lib.hid (refRight_wrong a b c d hr)
  clear hr
  obtain ⟨x0, x1, x2, x3⟩ := HX0.out
  go_enter Tryd.func6, Tryd.ntmps6
  go_wp2_with fail
  refine (HN.out _).mono ?_
  rintro e W1 ⟨rfl, hW⟩
  have HB1 := Lib.hid (belowOn HB0.out hW)
  clear hW HB0 HX0 HN x0 x1 x2 x3
  go_wp2_with fail
  refine bodyPost_ret (v := .tuple #[.slice none 0 0, .bool false]) (by simp [results, Tryd.f6, go_sem]) rfl ?_
  exact ListPost.none HB1.out
theorem rlist_len (a b c d : Int) (hr : Right a b c d) (va : Option Addr) (n c0 : Nat) (hn : ¬ (n : Int) = 5 + b + d + b * c + 3 * a) (w : World) :
    Calls Tryd.prog 6 #[.agg #[.int .i64 a, .int .i64 b, .int .i64 c, .int .i64 d], .slice va n c0] w (ListPost w none) := by
  have HB0 := Lib.hid (below_new w (.cells #[.int .i64 a, .int .i64 b, .int .i64 c, .int .i64 d] 23))
  have HX0 := Lib.hid (BoxAt.new w a b c d 23)
  have HN := Lib.hid (refRight_right a b c d hr)
  have hw := refWords_right a b c d hr
  rw [show 4 + b + (1 + d + b * c) + a + a + a = 5 + b + d + b * c + 3 * a by omega] at hw
  have hq : ((n : Int) != 5 + b + d + b * c + 3 * a) = true := by simpa using hn
  generalize 5 + b + d + b * c + 3 * a = z at hw hq
  have HW := Lib.hid hw
  clear hr hw hn
  obtain ⟨x0, x1, x2, x3⟩ := HX0.out
  go_enter Tryd.func6, Tryd.ntmps6
  go_wp2_with fail
  refine (HN.out _).mono ?_
  rintro e W1 ⟨rfl, hW⟩
  have HB1 := Lib.hid (belowOn HB0.out hW)
  have HX1 := Lib.hid (HX0.out.below hW)
  clear hW HB0 HX0 HN x0 x1 x2 x3
  obtain ⟨x0, x1, x2, x3⟩ := HX1.out
  go_wp2_with fail
  refine (HW.out _).mono ?_
  rintro e W2 ⟨rfl, hW⟩
  have HB2 := Lib.hid (belowOn HB1.out hW)
  clear hW HB1 HX1 HW x0 x1 x2 x3
  go_wp2_with fail
  refine bodyPost_ret (v := .tuple #[.slice none 0 0, .bool false]) (by simp [results, Tryd.f6, go_sem]) rfl ?_
  exact ListPost.none HB2.out
/-- How far the document's List is. -/
structure RLt (w wr : World) (v : Value) (f : Nat → Int) (a b c d : Int) (m : Nat) (L : List Nat) (u : Int) : Prop where
  old : Below w.heap.size w wr
  way : ReachL (nxF b c d f) m (f 0) L u
  row : wr.ownsRow (w.heap.size + 1) 3 1 v L.length (intsV L)
  map : BoxAt wr w.heap.size a b c d
theorem RLt.below {w wr w2 : World} {v : Value} {f : Nat → Int} {a b c d : Int} {m : Nat} {L : List Nat} {u : Int} (h : RLt w wr v f a b c d m L u) (hb : Below wr.heap.size wr w2) : RLt w w2 v f a b c d m L u :=
  ⟨belowOn h.old hb, h.way, ownsRow_below4 h.row hb, h.map.below hb⟩
theorem RLt.add {w wr w2 : World} {v v' : Value} {f : Nat → Int} {a b c d : Int} {m : Nat} {L : List Nat} {u : Int} {i : Nat} (h : RLt w wr v f a b c d m L u) (hu : u = 2 * (i : Int) + 1) (hi : i < m) (o : Obj)
    (hg : (wr.alloc o).grownBy w2 v.ownBlock) (hown : w2.ownsRow (w.heap.size + 1) 3 1 v' (L.length + 1) (intsV L ++ [.int .i64 (i : Int)])) : RLt w w2 v' f a b c d m (L ++ [i]) (nxF b c d f i) := by
  have hl := lt_of_cell h.map.1
  have hs : w.heap.size ≤ wr.heap.size := h.old.size
  have hne : some w.heap.size ≠ v.ownBlock := fun e => by have := (h.row.lt _ e.symm).1; omega
  have hb := h.map.below (below_new wr o)
  have k : ∀ j x, (wr.alloc o).cell? ⟨w.heap.size, j, none⟩ = some x → w2.cell? ⟨w.heap.size, j, none⟩ = some x := fun j x hx => by
    rw [hg.cell_far ⟨w.heap.size, j, none⟩ (by simp; omega) hne]; exact hx
  exact ⟨(below_on h.old o).grown hg (by simp; omega) (fun j e => by have := (h.row.lt j e).1; omega), h.way.snoc hu hi, by rw [intsV_snoc, List.length_append]; exact hown, ⟨k _ _ hb.1, k _ _ hb.2.1, k _ _ hb.2.2.1, k _ _ hb.2.2.2⟩⟩
set_option maxHeartbeats 12800000 in
theorem rlist_right (a b c d : Int) (hr : Right a b c d) (va : Option Addr) (n c0 : Nat) (f : Nat → Int) (hn : (n : Int) = 5 + b + d + b * c + 3 * a) (hu : ∀ j, U64 (f j)) (w : World) (hW : WordsAt w va n f) :
    Calls Tryd.prog 6 #[.agg #[.int .i64 a, .int .i64 b, .int .i64 c, .int .i64 d], .slice va n c0] w (ListPost w (listF (nxF b c d f) a.toNat (f 0))) := by
  obtain ⟨i50, hi50, hz0, hz1, hz2⟩ := info_parts infoInt
  obtain ⟨m, rfl⟩ : ∃ m : Nat, a = m := ⟨a.toNat, by unfold Right at hr; omega⟩
  have hm : m ≤ 4096 := by unfold Right at hr; omega
  have hn0 : 0 < n := by have := hr.prod; unfold Right at hr; omega
  have HB0 := Lib.hid (below_new w (.cells #[.int .i64 (m : Int), .int .i64 b, .int .i64 c, .int .i64 d] 23))
  have HX0 := Lib.hid (BoxAt.new w (m : Int) b c d 23)
  have HN := Lib.hid (refRight_right m b c d hr)
  have hw := refWords_right m b c d hr
  rw [show 4 + b + (1 + d + b * c) + (m : Int) + m + m = 5 + b + d + b * c + 3 * (m : Int) by omega, ← hn] at hw
  have HZ := Lib.hid hw
  have HC : Hid (∀ (i : Nat) W, i < m → Calls Tryd.prog 22 #[.agg #[.int .i64 (m : Int), .int .i64 b, .int .i64 c, .int .i64 d], .agg #[.int .i64 5, .int .i64 (i : Int), .int .i64 0]] W fun e w' => e = .returned (.int .i64 (cdrP b c d i : Int)) ∧ Below W.heap.size W w') := Lib.hid (fun i W hi => by have := refAt_cdr m b c d i hr W; rw [(cdrP_part hr (by omega)).1] at this; exact this)
  have HP : Hid (∀ i : Nat, i < m → cdrP b c d i < n) := Lib.hid (fun i hi => by have := (cdrP_part hr (i := i) (by omega)).2.1; omega)
  have HU := Lib.hid hu; have HWd := Lib.hid hW
  simp only [Int.toNat_natCast]
  clear hr hn hu hW hw
  obtain ⟨b0, off, rfl, hc⟩ := (HWd.out.below HB0.out).at' hn0
  obtain ⟨x0, x1, x2, x3⟩ := HX0.out
  go_enter Tryd.func6, Tryd.ntmps6
  clear hc
  go_wp2_with fail
  refine (HN.out _).mono ?_
  rintro e W1 ⟨rfl, hW⟩
  have HB1 := Lib.hid (belowOn HB0.out hW)
  have HX1 := Lib.hid (HX0.out.below hW)
  clear hW HB0 HX0 HN x0 x1 x2 x3
  obtain ⟨x0, x1, x2, x3⟩ := HX1.out
  go_wp2_with fail
  refine (HZ.out _).mono ?_
  rintro e W2 ⟨rfl, hW⟩
  have HQ : Hid (RLt w W2 (.slice none 0 0) f m b c d m [] (f 0)) := Lib.hid ⟨belowOn HB1.out hW, rfl, World.ownsRow_nil _ _ _ _, HX1.out.below hW⟩
  obtain ⟨b0', off', hbb, hc⟩ := (HWd.out.below HQ.out.old).at' hn0
  obtain ⟨rfl, rfl⟩ : b0 = b0' ∧ off = off' := by simpa using hbb
  rw [Nat.add_zero] at hc
  have hn0' : (0 : Int) < (n : Int) := by omega
  clear hW HB1 HX1 HZ x0 x1 x2 x3 hbb
  go_wp2_with fail
  clear hc hn0'
  go_loopg [6, 7, 8] (m + 1) (fun g v p nn wr => ∃ (L : List Nat) (u : Nat), p = .int .u64 (u : Int) ∧ u < 18446744073709551616 ∧ nn = .int .i64 ((L.length : Nat) : Int) ∧ L.length + g = m + 1 ∧ Hid (RLt w wr v f m b c d m L (u : Int)))
  case atStart =>
    obtain ⟨u0, h0, h06⟩ := word_nat (HU.out 0)
    exact ⟨[], u0, by rw [h0], h06, rfl, by simp, by rw [← h0]; exact HQ⟩
  case round =>
    clear HQ
    obtain ⟨L, u, rfl, hu6, rfl, hg, HQ⟩ := hrel
    obtain ⟨x0, x1, x2, x3⟩ := HQ.out.map
    by_cases hlm : L.length ≤ m
    · have hle : (L.length : Int) ≤ (m : Int) := by omega
      by_cases hl0 : 0 < L.length
      · have hl1 : (0 : Int) < (L.length : Int) := by omega
        by_cases hz : u = 0
        · subst hz
          have HR : Hid (listF (nxF b c d f) m (f 0) = some L) := Lib.hid (HQ.out.way.found (List.length_pos_iff.1 (by omega)))
          obtain ⟨g0, cap0, rfl⟩ : ∃ g cap, u6 = .slice (some ⟨g, 0, none⟩) L.length cap := by
            rcases HQ.out.row.2 with ⟨_, h⟩ | ⟨g, cap, cur, h, _⟩
            · omega
            · exact ⟨g, cap, h⟩
          have HE : Hid (Below w.heap.size w wr ∧ wr.ownsRow w.heap.size 3 1 (.slice (some ⟨g0, 0, none⟩) L.length cap0) L.length (intsV L)) := Lib.hid ⟨HQ.out.old, HQ.out.row.mono (by omega)⟩
          clear HQ hg
          generalize hll : L.length = ll at *
          go_wp2_with fail
          refine bodyPost_ret (v := .tuple #[.slice (some ⟨g0, 0, none⟩) ll cap0, .bool true]) (by simp [results, Tryd.f6, go_sem]) rfl ?_
          rw [HR.out]
          exact ⟨_, rfl, by rw [show ((some L).getD []) = L from rfl, hll]; exact HE.out.2, HE.out.1⟩
        have hu0 : ((u : Int) == 0) = false := by simp; omega
        by_cases hcl : isC u
        · obtain ⟨i, hi2, hui⟩ : ∃ i : Nat, u / 2 = i ∧ u = 2 * i + 1 := ⟨u / 2, rfl, by unfold isC at hcl; omega⟩
          have HI : Hid (∀ W, Calls Tryd.prog 21 #[.int .u64 (u : Int)] W fun e w' => e = .returned (.int .i64 (i : Int)) ∧ W = w') := Lib.hid (fun W => by have := refIsCell_cell u hcl.2 hcl.1 W; rw [hi2] at this; exact this)
          have hi0 : (0 : Int) ≤ (i : Int) := by omega
          have HFu : Hid ((u : Int) = 2 * (i : Int) + 1) := Lib.hid (by omega)
          clear hcl hi2 hui hz
          by_cases hia : i < m
          · have hlt : (i : Int) < (m : Int) := by omega
            have hge : ¬ (m : Int) ≤ (i : Int) := by omega
            obtain ⟨b1, off1, hbb, hc⟩ := (HWd.out.below HQ.out.old).at' (HP.out i hia)
            obtain ⟨rfl, rfl⟩ : b0 = b1 ∧ off = off1 := by simpa using hbb
            have hmv := (HWd.out.below HQ.out.old)
            clear hbb hmv hc
            go_wp2_with fail
            refine (HI.out _).mono ?_
            rintro e W4 ⟨rfl, rfl⟩
            clear HI
            go_wp2_with (at_builtin; go_loud (refine wpList_append_lies _ (by rfl) _ _ _ (by rfl) (w.heap.size + 1) 3 i50 _ 1 8 Tryd.underlying30 hi50 hz0 hz1 hz2 rfl (by omega) u6 L.length _ (by rfl) (HQ.out.row.alloc _) ⟨wr.heap.size, 0, none⟩ 1 1 [.int .i64 (i : Int)] (by rfl) (by rfl) (World.news_of_block (cs := #[.int .i64 (i : Int)]) (t := 3) (fr := (0, 0)) (heap_alloc_new wr _)) (by simp [Value.oneCell']) (by omega) (by unfold maxLen; omega) (by omega) (by have := lt_of_cell HQ.out.map.1; simp; omega) (wr.heap.size + 1) (by simp) ?_; intro gg cap w2 hown1 hgrow hat hlt2; have HQ2 := Lib.hid (HQ.out.add HFu.out hia _ hgrow hown1); obtain ⟨y0, y1, y2, y3⟩ := HQ2.out.map))
            clear hown1 hgrow hat hlt2 HQ x0 x1 x2 x3
            refine (HC.out i _ hia).mono ?_
            rintro e W5 ⟨rfl, hW⟩
            have HQ3 := Lib.hid (HQ2.out.below hW)
            have hpn := HP.out i hia
            obtain ⟨b1, off1, hbb, hc⟩ := (HWd.out.below HQ3.out.old).at' hpn
            obtain ⟨rfl, rfl⟩ : b0 = b1 ∧ off = off1 := by simpa using hbb
            obtain ⟨u2, hu2, hu26⟩ := word_nat (HU.out (cdrP b c d i))
            have HQ4 : Hid (RLt w W5 (.slice (some ⟨gg, 0, none⟩) (L.length + 1) cap) f m b c d m (L ++ [i]) (u2 : Int)) := Lib.hid (by rw [← hu2]; exact HQ3.out)
            rw [hu2] at hc
            clear hW HQ2 HQ3 hbb hu2 y0 y1 y2 y3
            generalize cdrP b c d i = z at *
            have hz1' : (0 : Int) ≤ (z : Int) := by omega
            have hz2' : (z : Int) < (n : Int) := by omega
            go_wp2_with fail
            go_roundg (gk - 1)
            case measure => omega
            case rel => exact ⟨L ++ [i], u2, rfl, hu26, by simp, by simp; omega, HQ4⟩
          · have hlt : ¬ (i : Int) < (m : Int) := by omega
            have hge : (m : Int) ≤ (i : Int) := by omega
            have HR : Hid (listF (nxF b c d f) m (f 0) = none) := Lib.hid (HQ.out.way.stuck (fun j e => by have := HFu.out; omega) (.inl (by have := HFu.out; omega)))
            clear hia
            go_wp2_with fail
            refine (HI.out _).mono ?_
            rintro e W4 ⟨rfl, rfl⟩
            go_wp2_with fail
            refine bodyPost_ret (v := .tuple #[.slice none 0 0, .bool false]) (by simp [results, Tryd.f6, go_sem]) rfl ?_
            rw [HR.out]; exact ListPost.none HQ.out.old
        · have HI : Hid (∀ W, Calls Tryd.prog 21 #[.int .u64 (u : Int)] W fun e w' => e = .returned (.int .i64 (-1)) ∧ W = w') := Lib.hid (fun W => refIsCell_no u hu6 hcl W)
          have HR : Hid (listF (nxF b c d f) m (f 0) = none) := Lib.hid (HQ.out.way.stuck (fun j e => by unfold isC at hcl; omega) (.inl (by omega)))
          clear hcl hz
          go_wp2_with fail
          refine (HI.out _).mono ?_
          rintro e W4 ⟨rfl, rfl⟩
          go_wp2_with fail
          refine bodyPost_ret (v := .tuple #[.slice none 0 0, .bool false]) (by simp [results, Tryd.f6, go_sem]) rfl ?_
          rw [HR.out]; exact ListPost.none HQ.out.old
      · have hl1 : ¬ (0 : Int) < (L.length : Int) := by omega
        by_cases hz : u = 0
        · subst hz
          have HR : Hid (listF (nxF b c d f) m (f 0) = none) := Lib.hid (HQ.out.way.stuck (fun j e => by omega) (.inr (List.length_eq_zero_iff.1 (by omega))))
          have HI : Hid (∀ W, Calls Tryd.prog 21 #[.int .u64 ((0 : Nat) : Int)] W fun e w' => e = .returned (.int .i64 (-1)) ∧ W = w') := Lib.hid (fun W => refIsCell_no 0 (by omega) (by unfold isC; omega) W)
          rw [show ((0 : Nat) : Int) = 0 from rfl] at HI
          go_wp2_with fail
          refine (HI.out _).mono ?_
          rintro e W4 ⟨rfl, rfl⟩
          go_wp2_with fail
          refine bodyPost_ret (v := .tuple #[.slice none 0 0, .bool false]) (by simp [results, Tryd.f6, go_sem]) rfl ?_
          rw [HR.out]; exact ListPost.none HQ.out.old
        have hu0 : ((u : Int) == 0) = false := by simp; omega
        by_cases hcl : isC u
        · obtain ⟨i, hi2, hui⟩ : ∃ i : Nat, u / 2 = i ∧ u = 2 * i + 1 := ⟨u / 2, rfl, by unfold isC at hcl; omega⟩
          have HI : Hid (∀ W, Calls Tryd.prog 21 #[.int .u64 (u : Int)] W fun e w' => e = .returned (.int .i64 (i : Int)) ∧ W = w') := Lib.hid (fun W => by have := refIsCell_cell u hcl.2 hcl.1 W; rw [hi2] at this; exact this)
          have hi0 : (0 : Int) ≤ (i : Int) := by omega
          have HFu : Hid ((u : Int) = 2 * (i : Int) + 1) := Lib.hid (by omega)
          clear hcl hi2 hui hz
          by_cases hia : i < m
          · have hlt : (i : Int) < (m : Int) := by omega
            have hge : ¬ (m : Int) ≤ (i : Int) := by omega
            obtain ⟨b1, off1, hbb, hc⟩ := (HWd.out.below HQ.out.old).at' (HP.out i hia)
            obtain ⟨rfl, rfl⟩ : b0 = b1 ∧ off = off1 := by simpa using hbb
            have hmv := (HWd.out.below HQ.out.old)
            clear hbb hmv hc
            go_wp2_with fail
            refine (HI.out _).mono ?_
            rintro e W4 ⟨rfl, rfl⟩
            clear HI
            go_wp2_with (at_builtin; go_loud (refine wpList_append_lies _ (by rfl) _ _ _ (by rfl) (w.heap.size + 1) 3 i50 _ 1 8 Tryd.underlying30 hi50 hz0 hz1 hz2 rfl (by omega) u6 L.length _ (by rfl) (HQ.out.row.alloc _) ⟨wr.heap.size, 0, none⟩ 1 1 [.int .i64 (i : Int)] (by rfl) (by rfl) (World.news_of_block (cs := #[.int .i64 (i : Int)]) (t := 3) (fr := (0, 0)) (heap_alloc_new wr _)) (by simp [Value.oneCell']) (by omega) (by unfold maxLen; omega) (by omega) (by have := lt_of_cell HQ.out.map.1; simp; omega) (wr.heap.size + 1) (by simp) ?_; intro gg cap w2 hown1 hgrow hat hlt2; have HQ2 := Lib.hid (HQ.out.add HFu.out hia _ hgrow hown1); obtain ⟨y0, y1, y2, y3⟩ := HQ2.out.map))
            clear hown1 hgrow hat hlt2 HQ x0 x1 x2 x3
            refine (HC.out i _ hia).mono ?_
            rintro e W5 ⟨rfl, hW⟩
            have HQ3 := Lib.hid (HQ2.out.below hW)
            have hpn := HP.out i hia
            obtain ⟨b1, off1, hbb, hc⟩ := (HWd.out.below HQ3.out.old).at' hpn
            obtain ⟨rfl, rfl⟩ : b0 = b1 ∧ off = off1 := by simpa using hbb
            obtain ⟨u2, hu2, hu26⟩ := word_nat (HU.out (cdrP b c d i))
            have HQ4 : Hid (RLt w W5 (.slice (some ⟨gg, 0, none⟩) (L.length + 1) cap) f m b c d m (L ++ [i]) (u2 : Int)) := Lib.hid (by rw [← hu2]; exact HQ3.out)
            rw [hu2] at hc
            clear hW HQ2 HQ3 hbb hu2 y0 y1 y2 y3
            generalize cdrP b c d i = z at *
            have hz1' : (0 : Int) ≤ (z : Int) := by omega
            have hz2' : (z : Int) < (n : Int) := by omega
            go_wp2_with fail
            go_roundg (gk - 1)
            case measure => omega
            case rel => exact ⟨L ++ [i], u2, rfl, hu26, by simp, by simp; omega, HQ4⟩
          · have hlt : ¬ (i : Int) < (m : Int) := by omega
            have hge : (m : Int) ≤ (i : Int) := by omega
            have HR : Hid (listF (nxF b c d f) m (f 0) = none) := Lib.hid (HQ.out.way.stuck (fun j e => by have := HFu.out; omega) (.inl (by have := HFu.out; omega)))
            clear hia
            go_wp2_with fail
            refine (HI.out _).mono ?_
            rintro e W4 ⟨rfl, rfl⟩
            go_wp2_with fail
            refine bodyPost_ret (v := .tuple #[.slice none 0 0, .bool false]) (by simp [results, Tryd.f6, go_sem]) rfl ?_
            rw [HR.out]; exact ListPost.none HQ.out.old
        · have HI : Hid (∀ W, Calls Tryd.prog 21 #[.int .u64 (u : Int)] W fun e w' => e = .returned (.int .i64 (-1)) ∧ W = w') := Lib.hid (fun W => refIsCell_no u hu6 hcl W)
          have HR : Hid (listF (nxF b c d f) m (f 0) = none) := Lib.hid (HQ.out.way.stuck (fun j e => by unfold isC at hcl; omega) (.inl (by omega)))
          clear hcl hz
          go_wp2_with fail
          refine (HI.out _).mono ?_
          rintro e W4 ⟨rfl, rfl⟩
          go_wp2_with fail
          refine bodyPost_ret (v := .tuple #[.slice none 0 0, .bool false]) (by simp [results, Tryd.f6, go_sem]) rfl ?_
          rw [HR.out]; exact ListPost.none HQ.out.old
    · have hle : ¬ (L.length : Int) ≤ (m : Int) := by omega
      have HR : Hid (listF (nxF b c d f) m (f 0) = none) := Lib.hid (HQ.out.way.long (by omega))
      go_wp2_with fail
      refine bodyPost_ret (v := .tuple #[.slice none 0 0, .bool false]) (by simp [results, Tryd.f6, go_sem]) rfl ?_
      rw [HR.out]; exact ListPost.none HQ.out.old
end Go.Proofs.YthdcapkchjamoaaDoor
