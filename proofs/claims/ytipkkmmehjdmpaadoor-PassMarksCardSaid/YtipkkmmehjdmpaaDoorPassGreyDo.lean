/- Greys of package pass, of any words. -/
import Derived.Test.YtipkkmmehjdmpaaDoorIntsRow
import Derived.Test.YtipkkmmehjdmpaaDoorPassGreyP
import Derived.Test.YtipkkmmehjdmpaaDoorPlaceAt
import Derived.Test.YtipkkmmehjdmpaaDoorArr4
namespace Go.Proofs.YtipkkmmehjdmpaaDoor
open Go Go.RowKit
set_option maxRecDepth 100000
attribute [local go_sem ↓] Go.wp_at_zero Go.wp_at_succ

theorem greys_wrong (a b c d : Int) (hr : ¬ Right a b c d) (va : Option Addr) (n c0 : Nat) (w : World) (hS : SpansAt w) :
    Calls Tryd.prog 15 #[.agg #[.int .i64 a, .int .i64 b, .int .i64 c, .int .i64 d], .slice va n c0] w (NumsPost w []) := by
  have HB0 := Lib.hid (below_new w (.cells #[.int .i64 a, .int .i64 b, .int .i64 c, .int .i64 d] 23))
  have HX0 := Lib.hid (BoxAt.new w a b c d 23)
  have HN := Lib.hid (New_wrong a b c d hr _ (hS.below HB0.out))
  clear hr hS
  obtain ⟨x0, x1, x2, x3⟩ := HX0.out
  go_enter Tryd.func15, Tryd.ntmps15
  go_wp2_with fail
  refine HN.out.mono ?_
  rintro e W1 ⟨rfl, hW⟩
  have HB1 := Lib.hid (belowOn HB0.out hW)
  clear hW HB0 HX0 HN x0 x1 x2 x3
  go_wp2_with fail
  go_ret
  exact NumsPost.none (below_on HB1.out _)
theorem greys_len (a b c d : Int) (hr : Right a b c d) (va : Option Addr) (n c0 : Nat) (hn : ¬ (n : Int) = 5 + b + d + b * c + 3 * a) (w : World) (hS : SpansAt w) :
    Calls Tryd.prog 15 #[.agg #[.int .i64 a, .int .i64 b, .int .i64 c, .int .i64 d], .slice va n c0] w (NumsPost w []) := by
  have HB0 := Lib.hid (below_new w (.cells #[.int .i64 a, .int .i64 b, .int .i64 c, .int .i64 d] 23))
  have HX0 := Lib.hid (BoxAt.new w a b c d 23)
  have HN := Lib.hid (New_right a b c d hr _ (hS.below HB0.out))
  have HS := Lib.hid hS
  have HZ0 : ∀ W, SpansAt W → Calls Tryd.prog 43 #[.agg #[.int .i64 a, .int .i64 b, .int .i64 c, .int .i64 d]] W fun e w' => e = .returned (.int .i64 (sizeP a b c d)) ∧ Below W.heap.size W w' := fun W h => Size_c a b c d W h
  have hz : sizeP a b c d = 5 + b + d + b * c + 3 * a := by unfold sizeP; rw [if_pos hr]; omega
  rw [hz] at HZ0
  have hq : ((n : Int) != 5 + b + d + b * c + 3 * a) = true := by simpa using hn
  clear hz
  generalize 5 + b + d + b * c + 3 * a = z at *
  have HZ := Lib.hid HZ0
  clear hr hS hn HZ0
  obtain ⟨x0, x1, x2, x3⟩ := HX0.out
  go_enter Tryd.func15, Tryd.ntmps15
  go_wp2_with fail
  refine HN.out.mono ?_
  rintro e W1 ⟨rfl, hW⟩
  have HB1 := Lib.hid (belowOn HB0.out hW)
  clear hW HB0 HX0 HN x0 x1 x2 x3
  have HY := Lib.hid (BoxAt.new W1 a b c d 49)
  obtain ⟨y0, y1, y2, y3⟩ := HY.out
  have HB2 := Lib.hid (below_on HB1.out (.cells #[.int .i64 a, .int .i64 b, .int .i64 c, .int .i64 d] 49))
  have hlo := HB1.out.size
  go_wp2_with fail
  refine (HZ.out _ (HS.out.below HB2.out)).mono ?_
  rintro e W2 ⟨rfl, hW⟩
  have HB3 := Lib.hid (belowOn HB2.out hW)
  clear hW HB2 HZ  y0 y1 y2 y3 HY
  go_wp2_with fail
  go_ret
  exact NumsPost.none HB3.out
set_option maxHeartbeats 6400000 in
theorem greys_right (a b c d : Int) (hr : Right a b c d) (va : Option Addr) (n c0 : Nat) (f : Nat → Int) (hn : (n : Int) = 5 + b + d + b * c + 3 * a) (w : World) (hS : SpansAt w) (hW : WordsAt w va n f) :
    Calls Tryd.prog 15 #[.agg #[.int .i64 a, .int .i64 b, .int .i64 c, .int .i64 d], .slice va n c0] w (NumsPost w (greysL ⟨n, a, b, c, d⟩ f a.toNat)) := by
  obtain ⟨i50, hi50, hz0, hz1, hz2⟩ := info_parts infoInt
  obtain ⟨m, rfl⟩ : ∃ m : Nat, a = m := ⟨a.toNat, by unfold Right at hr; omega⟩
  have hm : m ≤ 4096 := by unfold Right at hr; omega
  have HB0 := Lib.hid (below_new w (.cells #[.int .i64 (m : Int), .int .i64 b, .int .i64 c, .int .i64 d] 23))
  have HX0 := Lib.hid (BoxAt.new w (m : Int) b c d 23)
  have HN := Lib.hid (New_right m b c d hr _ (hS.below HB0.out))
  have HS := Lib.hid hS
  have HZ0 : ∀ W, SpansAt W → Calls Tryd.prog 43 #[.agg #[.int .i64 (m : Int), .int .i64 b, .int .i64 c, .int .i64 d]] W fun e w' => e = .returned (.int .i64 (sizeP m b c d)) ∧ Below W.heap.size W w' := fun W h => Size_c m b c d W h
  have hz : sizeP m b c d = (n : Int) := by unfold sizeP; rw [if_pos hr]; omega
  rw [hz] at HZ0
  have HZ := Lib.hid HZ0
  clear hz HZ0
  have hnn : ((n : Int) != (n : Int)) = false := by simp
  have hC : CfOK ⟨n, m, b, c, d⟩ := ⟨hr, hn⟩
  have HC : Hid (∀ (i : Nat) W, SpansAt W → i < m → Calls Tryd.prog 24 #[.agg #[.int .i64 (m : Int), .int .i64 b, .int .i64 c, .int .i64 d], .int .i64 (i : Int)] W fun e w' => e = .returned (.int .i64 (colI ⟨n, m, b, c, d⟩ i : Int)) ∧ Below W.heap.size W w') := Lib.hid (fun i W hs hi => by have := Colour_c m b c d i W hs; rw [← (colI_sp hC (i := i) (by dsimp only; omega)).1] at this; exact this)
  have HP : Hid (∀ i : Nat, i < m → colI ⟨n, m, b, c, d⟩ i < n) := Lib.hid (fun i hi => (colI_sp hC (i := i) (by dsimp only; omega)).2.1)
  have HWd := Lib.hid hW
  simp only [Int.toNat_natCast]
  clear hr hn hS hW hC
  obtain ⟨x0, x1, x2, x3⟩ := HX0.out
  go_enter Tryd.func15, Tryd.ntmps15
  go_wp2_with fail
  refine HN.out.mono ?_
  rintro e W1 ⟨rfl, hW⟩
  have HB1 := Lib.hid (belowOn HB0.out hW)
  clear hW HB0 HX0 HN x0 x1 x2 x3
  have HY := Lib.hid (BoxAt.new W1 (m : Int) b c d 49)
  obtain ⟨y0, y1, y2, y3⟩ := HY.out
  have HB2 := Lib.hid (below_on HB1.out (.cells #[.int .i64 (m : Int), .int .i64 b, .int .i64 c, .int .i64 d] 49))
  have hlo := HB1.out.size
  go_wp2_with fail
  refine (HZ.out _ (HS.out.below HB2.out)).mono ?_
  rintro e W2 ⟨rfl, hW⟩
  have HQ : Hid (NLt w W2 (.slice none 0 0) W1.heap.size m b c d (greysL ⟨n, m, b, c, d⟩ f 0)) := Lib.hid ⟨belowOn HB2.out hW, hlo, World.ownsRow_nil _ _ _ _, HY.out.below hW⟩
  clear hW HB1 HB2 HZ  y0 y1 y2 y3 HY hlo
  generalize W1.heap.size = X at *
  obtain ⟨x0, x1, x2, x3⟩ := HQ.out.map
  go_wp2_with fail
  clear x0 x1 x2 x3 hnn
  go_loopw [7, 26] (fun o iv wr => ∃ k : Nat, iv = .int .i64 k ∧ k ≤ m ∧ Hid (NLt w wr o X m b c d (greysL ⟨n, m, b, c, d⟩ f k))) (fun _ iv _ => m - (intOf iv).toNat)
  case atStart => exact ⟨0, rfl, Nat.zero_le _, HQ⟩
  case round =>
    clear HQ
    obtain ⟨k, rfl, hk, HQ⟩ := hrel
    obtain ⟨x0, x1, x2, x3⟩ := HQ.out.map
    by_cases hkm : k < m
    · have hkI : (k : Int) < (m : Int) := by omega
      have hk1 : IntKind.i64.wrap ((k : Int) + 1) = (k : Int) + 1 := IntWalk.i64_in _ (by omega)
      go_wp2_with fail
      refine (HC.out k _ (HS.out.below HQ.out.old) hkm).mono ?_
      rintro e wr ⟨rfl, hW⟩
      have HQ1 := Lib.hid (HQ.out.below hW)
      clear hW HQ x0 x1 x2 x3
      have HQ := HQ1
      clear HQ1
      obtain ⟨b0, off, rfl, hc⟩ := (HWd.out.below HQ.out.old).at' (HP.out k hkm)
      have hz1' : (0 : Int) ≤ (colI ⟨n, m, b, c, d⟩ k : Int) := by omega
      have hz2' : (colI ⟨n, m, b, c, d⟩ k : Int) < (n : Int) := by have := HP.out k hkm; omega
      by_cases hg : f (colI ⟨n, m, b, c, d⟩ k) = 1
      · have HG := Lib.hid (greysL_yes (C := ⟨n, m, b, c, d⟩) hg)
        rw [hg] at hc
        have hll := greysL_len ⟨n, m, b, c, d⟩ f k
        clear hg
        generalize hLL : greysL ⟨n, m, b, c, d⟩ f k = L at *
        generalize colI ⟨n, m, b, c, d⟩ k = z at *
        go_wp2_with (at_builtin; go_loud (refine wpList_append_lies _ (by rfl) _ _ _ (by rfl) (X + 1) 3 i50 _ 1 8 Tryd.underlying42 hi50 hz0 hz1 hz2 rfl (by omega) u7 L.length _ (by rfl) (HQ.out.row.alloc _) ⟨wr.heap.size, 0, none⟩ 1 1 [.int .i64 (k : Int)] (by rfl) (by rfl) (World.news_of_block (cs := #[.int .i64 (k : Int)]) (t := 3) (fr := (0, 0)) (heap_alloc_new wr _)) (by simp [Value.oneCell']) (by omega) (by unfold maxLen; omega) (by omega) (by have := lt_of_cell HQ.out.map.1; simp; omega) (wr.heap.size + 1) (by simp) ?_; intro gg cap w2 hown1 hgrow hat hlt2; have HQ2 := Lib.hid (HQ.out.add k _ hgrow hown1)))
        rw [← HG.out] at HQ2
        clear hown1 hgrow hat hlt2 HQ hc
        go_wp2_with fail
        go_roundw
        case rel => exact ⟨k + 1, by go_num, by omega, HQ2⟩
        case measure => simp [intOf]; omega
      · have HG := Lib.hid (greysL_no (C := ⟨n, m, b, c, d⟩) hg)
        have hgb : (f (colI ⟨n, m, b, c, d⟩ k) == 1) = false := by simpa using hg
        generalize f (colI ⟨n, m, b, c, d⟩ k) = fz at *
        clear hg
        rw [← HG.out] at HQ
        generalize colI ⟨n, m, b, c, d⟩ k = z at *
        go_wp2_with fail
        go_roundw
        case rel => exact ⟨k + 1, by go_num, by omega, HQ⟩
        case measure => simp [intOf]; omega
    obtain rfl : m = k := by omega
    have hmm : decide ((m : Int) < (m : Int)) = false := by simp
    go_wp2_with fail
    refine bodyPost_ret (v := u7) (by simp [results, Tryd.f15, go_sem]) rfl ?_
    exact HQ.out.post
theorem greys_any (a b c d : Int) (va : Option Addr) (n c0 : Nat) (f : Nat → Int) (_ : ∀ j, U64 (f j)) (w : World) (hS : SpansAt w) (hW : WordsAt w va n f) :
    Calls Tryd.prog 15 #[.agg #[.int .i64 a, .int .i64 b, .int .i64 c, .int .i64 d], .slice va n c0] w (NumsPost w (greysR ⟨n, a, b, c, d⟩ f)) := by
  unfold greysR
  by_cases hr : Right a b c d
  · by_cases hn : (n : Int) = 5 + b + d + b * c + 3 * a
    · rw [if_pos ⟨hr, hn⟩]; exact greys_right a b c d hr va n c0 f hn w hS hW
    · rw [if_neg (fun h => hn h.size)]; exact greys_len a b c d hr va n c0 hn w hS
  · rw [if_neg (fun h => hr h.right)]; exact greys_wrong a b c d hr va n c0 w hS
end Go.Proofs.YtipkkmmehjdmpaaDoor
