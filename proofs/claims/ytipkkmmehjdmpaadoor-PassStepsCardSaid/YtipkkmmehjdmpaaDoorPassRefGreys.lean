/- The document's Greys, of any words. -/
import Derived.Test.YtipkkmmehjdmpaaDoorIntsRow
import Derived.Test.YtipkkmmehjdmpaaDoorPassGreyP
import Derived.Test.YtipkkmmehjdmpaaDoorPlaceRef
namespace Go.Proofs.YtipkkmmehjdmpaaDoor
open Go Go.RowKit
set_option maxRecDepth 100000
attribute [local go_sem ↓] Go.wp_at_zero Go.wp_at_succ

theorem rgreys_wrong (a b c d : Int) (hr : ¬ Right a b c d) (va : Option Addr) (n c0 : Nat) (w : World) :
    Calls Tryd.prog 16 #[.agg #[.int .i64 a, .int .i64 b, .int .i64 c, .int .i64 d], .slice va n c0] w (NumsPost w []) := by
  have HB0 := Lib.hid (below_new w (.cells #[.int .i64 a, .int .i64 b, .int .i64 c, .int .i64 d] 23))
  have HX0 := Lib.hid (BoxAt.new w a b c d 23)
  have HN := Lib.hid (refRight_wrong a b c d hr)
  clear hr
  obtain ⟨x0, x1, x2, x3⟩ := HX0.out
  go_enter Tryd.func16, Tryd.ntmps16
  go_wp2_with fail
  go_loopw [5, 6] (fun o iv wr => o = .slice none 0 0 ∧ iv = .int .i64 0 ∧ Hid (wr = w.alloc (.cells #[.int .i64 a, .int .i64 b, .int .i64 c, .int .i64 d] 23))) (fun _ _ _ => 0)
  case atStart => exact ⟨rfl, rfl, Lib.hid rfl⟩
  case round =>
    obtain ⟨rfl, rfl, hw⟩ := hrel
    obtain rfl := hw.out
    go_wp2_with fail
    refine (HN.out _).mono ?_
    rintro e W1 ⟨rfl, hW⟩
    have HB1 := Lib.hid (belowOn HB0.out hW)
    clear hW HB0 HX0 HN x0 x1 x2 x3
    go_wp2_with fail
    go_ret
    exact NumsPost.none HB1.out
theorem rgreys_len (a b c d : Int) (hr : Right a b c d) (va : Option Addr) (n c0 : Nat) (hn : ¬ (n : Int) = 5 + b + d + b * c + 3 * a) (w : World) :
    Calls Tryd.prog 16 #[.agg #[.int .i64 a, .int .i64 b, .int .i64 c, .int .i64 d], .slice va n c0] w (NumsPost w []) := by
  have HB0 := Lib.hid (below_new w (.cells #[.int .i64 a, .int .i64 b, .int .i64 c, .int .i64 d] 23))
  have HX0 := Lib.hid (BoxAt.new w a b c d 23)
  have HN := Lib.hid (refRight_right a b c d hr)
  have hw := refWords_right a b c d hr
  rw [show 4 + b + (1 + d + b * c) + a + a + a = 5 + b + d + b * c + 3 * a by omega] at hw
  have hq : ((n : Int) == 5 + b + d + b * c + 3 * a) = false := by simpa using hn
  generalize 5 + b + d + b * c + 3 * a = z at hw hq
  have HW := Lib.hid hw
  clear hr hw hn
  obtain ⟨x0, x1, x2, x3⟩ := HX0.out
  go_enter Tryd.func16, Tryd.ntmps16
  go_wp2_with fail
  go_loopw [5, 6] (fun o iv wr => o = .slice none 0 0 ∧ iv = .int .i64 0 ∧ Hid (wr = w.alloc (.cells #[.int .i64 a, .int .i64 b, .int .i64 c, .int .i64 d] 23))) (fun _ _ _ => 0)
  case atStart => exact ⟨rfl, rfl, Lib.hid rfl⟩
  case round =>
    obtain ⟨rfl, rfl, hw⟩ := hrel
    obtain rfl := hw.out
    go_wp2_with fail
    refine (HN.out _).mono ?_
    rintro e W1 ⟨rfl, hW⟩
    have HB1 := Lib.hid (belowOn HB0.out hW)
    have HX1 := Lib.hid (HX0.out.below hW)
    clear hW HB0 HX0 HN x0 x1 x2 x3
    obtain ⟨x0, x1, x2, x3⟩ := HX1.out
    go_wp2_with fail
    refine (HW.out _).mono ?_
    rintro e W2 ⟨rfl, hW⟩
    have HB2 := Lib.hid (belowOn HB1.out hW)
    have HX2 := Lib.hid (HX1.out.below hW)
    clear hW HB1 HX1 HW x0 x1 x2 x3
    go_wp2_with fail
    go_ret
    exact NumsPost.none HB2.out
set_option maxHeartbeats 6400000 in
theorem rgreys_right (a b c d : Int) (hr : Right a b c d) (va : Option Addr) (n c0 : Nat) (f : Nat → Int) (hn : (n : Int) = 5 + b + d + b * c + 3 * a) (hu : ∀ j, U64 (f j)) (w : World) (hW : WordsAt w va n f) :
    Calls Tryd.prog 16 #[.agg #[.int .i64 a, .int .i64 b, .int .i64 c, .int .i64 d], .slice va n c0] w (NumsPost w (greysL ⟨n, a, b, c, d⟩ f a.toNat)) := by
  obtain ⟨i50, hi50, hz0, hz1, hz2⟩ := info_parts infoInt
  obtain ⟨m, rfl⟩ : ∃ m : Nat, a = m := ⟨a.toNat, by unfold Right at hr; omega⟩
  have hm : m ≤ 4096 := by unfold Right at hr; omega
  have HB0 := Lib.hid (below_new w (.cells #[.int .i64 (m : Int), .int .i64 b, .int .i64 c, .int .i64 d] 23))
  have HX0 := Lib.hid (BoxAt.new w m b c d 23)
  have HN := Lib.hid (refRight_right m b c d hr)
  have hw := refWords_right m b c d hr
  rw [show 4 + b + (1 + d + b * c) + (m : Int) + m + m = 5 + b + d + b * c + 3 * (m : Int) by omega, ← hn] at hw
  have HZ := Lib.hid hw
  have hC : CfOK ⟨n, m, b, c, d⟩ := ⟨hr, hn⟩
  have HC : Hid (∀ (i : Nat) W, i < m → Calls Tryd.prog 19 #[.agg #[.int .i64 (m : Int), .int .i64 b, .int .i64 c, .int .i64 d], .agg #[.int .i64 6, .int .i64 (i : Int), .int .i64 0]] W fun e w' => e = .returned (.int .i64 (colI ⟨n, m, b, c, d⟩ i : Int)) ∧ Below W.heap.size W w') := Lib.hid (fun i W hi => by have := refAt_colour m b c d i hr W; rw [← (colI_sp hC (i := i) (by dsimp only; omega)).1] at this; exact this)
  have HP : Hid (∀ i : Nat, i < m → colI ⟨n, m, b, c, d⟩ i < n) := Lib.hid (fun i hi => (colI_sp hC (i := i) (by dsimp only; omega)).2.1)
  have HU := Lib.hid hu; have HWd := Lib.hid hW
  simp only [Int.toNat_natCast]
  have HQ : Hid (NLt w (w.alloc (.cells #[.int .i64 (m : Int), .int .i64 b, .int .i64 c, .int .i64 d] 23)) (.slice none 0 0) w.heap.size m b c d (greysL ⟨n, m, b, c, d⟩ f 0)) := Lib.hid ⟨HB0.out, Nat.le_refl _, World.ownsRow_nil _ _ _ _, HX0.out⟩
  clear hr hn hu hW hw hC HB0
  obtain ⟨x0, x1, x2, x3⟩ := HX0.out
  clear HX0
  go_enter Tryd.func16, Tryd.ntmps16
  go_wp2_with fail
  clear x0 x1 x2 x3
  go_loopw [5, 6] (fun o iv wr => ∃ k : Nat, iv = .int .i64 k ∧ k ≤ m ∧ Hid (NLt w wr o w.heap.size m b c d (greysL ⟨n, m, b, c, d⟩ f k))) (fun _ iv _ => m - (intOf iv).toNat)
  case atStart => exact ⟨0, rfl, Nat.zero_le _, HQ⟩
  case round =>
    clear HQ
    obtain ⟨k, rfl, hk, HQ⟩ := hrel
    have hnn : ((n : Int) == (n : Int)) = true := by simp
    by_cases hkm : k < m
    · have hkI : (k : Int) < (m : Int) := by omega
      have hk1 : IntKind.i64.wrap ((k : Int) + 1) = (k : Int) + 1 := IntWalk.i64_in _ (by omega)
      obtain ⟨x0, x1, x2, x3⟩ := HQ.out.map
      go_wp2_with fail
      refine (HN.out _).mono ?_
      rintro e W1 ⟨rfl, hW⟩
      have HQ1 := Lib.hid (HQ.out.below hW)
      clear hW HQ x0 x1 x2 x3
      obtain ⟨x0, x1, x2, x3⟩ := HQ1.out.map
      go_wp2_with fail
      refine (HZ.out _).mono ?_
      rintro e W2 ⟨rfl, hW⟩
      have HQ2 := Lib.hid (HQ1.out.below hW)
      clear hW HQ1 x0 x1 x2 x3
      have HQ := HQ2
      clear HQ2
      obtain ⟨x0, x1, x2, x3⟩ := HQ.out.map
      go_wp2_with fail
      refine (HC.out k _ hkm).mono ?_
      rintro e wr ⟨rfl, hW⟩
      have HQ1 := Lib.hid (HQ.out.below hW)
      clear hW HQ x0 x1 x2 x3
      have HQ := HQ1
      clear HQ1
      obtain ⟨b0, off, rfl, hc⟩ := (HWd.out.below HQ.out.old).at' (HP.out k hkm)
      have hz1' : (0 : Int) ≤ (colI ⟨n, m, b, c, d⟩ k : Int) := by omega
      have hz2' : (colI ⟨n, m, b, c, d⟩ k : Int) < (n : Int) := by have := HP.out k hkm; omega
      by_cases hg : f (colI ⟨n, m, b, c, d⟩ k) = 1
      · have HG := Lib.hid (greysL_yes (C := ⟨n, m, b, c, d⟩) hg)
        rw [hg] at hc
        have hll := greysL_len ⟨n, m, b, c, d⟩ f k
        clear hg
        generalize hLL : greysL ⟨n, m, b, c, d⟩ f k = L at *
        generalize colI ⟨n, m, b, c, d⟩ k = z at *
        go_wp2_with (at_builtin; go_loud (refine wpList_append_lies _ (by rfl) _ _ _ (by rfl) (w.heap.size + 1) 3 i50 _ 1 8 Tryd.underlying42 hi50 hz0 hz1 hz2 rfl (by omega) u5 L.length _ (by rfl) (HQ.out.row.alloc _) ⟨wr.heap.size, 0, none⟩ 1 1 [.int .i64 (k : Int)] (by rfl) (by rfl) (World.news_of_block (cs := #[.int .i64 (k : Int)]) (t := 3) (fr := (0, 0)) (heap_alloc_new wr _)) (by simp [Value.oneCell']) (by omega) (by unfold maxLen; omega) (by omega) (by have := lt_of_cell HQ.out.map.1; simp; omega) (wr.heap.size + 1) (by simp) ?_; intro gg cap w2 hown1 hgrow hat hlt2; have HQ2 := Lib.hid (HQ.out.add k _ hgrow hown1)))
        rw [← HG.out] at HQ2
        clear hown1 hgrow hat hlt2 HQ hc
        go_wp2_with fail
        go_roundw
        case rel => exact ⟨k + 1, by go_num, by omega, HQ2⟩
        case measure => simp [intOf]; omega
      · have HG := Lib.hid (greysL_no (C := ⟨n, m, b, c, d⟩) hg)
        have hgb : (f (colI ⟨n, m, b, c, d⟩ k) == 1) = false := by simpa using hg
        generalize f (colI ⟨n, m, b, c, d⟩ k) = fz at *
        clear hg
        rw [← HG.out] at HQ
        generalize colI ⟨n, m, b, c, d⟩ k = z at *
        go_wp2_with fail
        go_roundw
        case rel => exact ⟨k + 1, by go_num, by omega, HQ⟩
        case measure => simp [intOf]; omega
    obtain rfl : m = k := by omega
    obtain ⟨x0, x1, x2, x3⟩ := HQ.out.map
    go_wp2_with fail
    refine (HN.out _).mono ?_
    rintro e W1 ⟨rfl, hW⟩
    have HQ1 := Lib.hid (HQ.out.below hW)
    clear hW HQ x0 x1 x2 x3
    obtain ⟨x0, x1, x2, x3⟩ := HQ1.out.map
    go_wp2_with fail
    refine (HZ.out _).mono ?_
    rintro e W2 ⟨rfl, hW⟩
    have HQ2 := Lib.hid (HQ1.out.below hW)
    clear hW HQ1 x0 x1 x2 x3
    have HQ := HQ2
    clear HQ2
    obtain ⟨x0, x1, x2, x3⟩ := HQ.out.map
    have hmm : decide ((m : Int) < (m : Int)) = false := by simp
    go_wp2_with fail
    refine bodyPost_ret (v := u5) (by simp [results, Tryd.f16, go_sem]) rfl ?_
    exact HQ.out.post
theorem rgreys_any (a b c d : Int) (va : Option Addr) (n c0 : Nat) (f : Nat → Int) (hu : ∀ j, U64 (f j)) (w : World) (hW : WordsAt w va n f) :
    Calls Tryd.prog 16 #[.agg #[.int .i64 a, .int .i64 b, .int .i64 c, .int .i64 d], .slice va n c0] w (NumsPost w (greysR ⟨n, a, b, c, d⟩ f)) := by
  unfold greysR
  by_cases hr : Right a b c d
  · by_cases hn : (n : Int) = 5 + b + d + b * c + 3 * a
    · rw [if_pos ⟨hr, hn⟩]; exact rgreys_right a b c d hr va n c0 f hn hu w hW
    · rw [if_neg (fun h => hn h.size)]; exact rgreys_len a b c d hr va n c0 hn w
  · rw [if_neg (fun h => hr h.right)]; exact rgreys_wrong a b c d hr va n c0 w
end Go.Proofs.YtipkkmmehjdmpaaDoor
