/- The document's list of what lies at each place (All), for every configuration: of a right one what spotF tells of each place, in their order; of any other none. -/
import Derived.Test.YtgjbabndpmkccaaDoorPlaceRef
import Derived.Test.YtgjbabndpmkccaaDoorPlaceSpot
namespace Go.Proofs.YtgjbabndpmkccaaDoor
open Go Go.RowKit
set_option maxRecDepth 100000

def trip (s : Int × Int × Int) : List Value := [.int .i64 s.1, .int .i64 s.2.1, .int .i64 s.2.2]
def flat (b c d : Int) (n : Nat) : List Value := (List.range n).flatMap fun j : Nat => trip (spotF b c d (j : Int))
theorem flat_succ (b c d : Int) (n : Nat) : flat b c d (n + 1) = flat b c d n ++ trip (spotF b c d n) := by
  unfold flat; rw [List.range_succ, List.flatMap_append]; simp
theorem flat_length (b c d : Int) (n : Nat) : (flat b c d n).length = n * 3 := by
  induction n with
  | zero => rfl
  | succ n ih => rw [flat_succ, List.length_append, ih]; simp [trip]; omega
theorem flat_at (b c d : Int) (n j k : Nat) (hj : j < n) (hk : k < 3) : (flat b c d n)[j * 3 + k]? = (trip (spotF b c d j))[k]? := by
  induction n with
  | zero => omega
  | succ n ih =>
    rw [flat_succ]
    by_cases h : j < n
    · rw [List.getElem?_append_left (by rw [flat_length]; omega)]; exact ih h
    · obtain rfl : j = n := by omega
      rw [List.getElem?_append_right (by rw [flat_length]; omega), flat_length]
      congr 1; omega
theorem spot_once {b c d n : Int} (h : n < 5) : spotF b c d n = (0, n, 0) := by unfold spotF; rw [if_pos h]
theorem spot_in {b c d n : Int} (h : ¬ n < 5) (h1 : n < 5 + b) : spotF b c d n = (1, n - 5, 0) := by unfold spotF; rw [if_neg h, if_pos h1]
theorem spot_glob {b c d n : Int} (h : ¬ n < 5) (h1 : ¬ n < 5 + b) (h2 : n < 5 + b + d) : spotF b c d n = (2, n - (5 + b), 0) := by unfold spotF; rw [if_neg h, if_neg h1, if_pos h2]
theorem spot_reg {a b c d : Int} (hr : Right a b c d) {i r n : Int} (h0 : 0 ≤ i) (h1 : i < b) (h2 : 0 ≤ r) (h3 : r < c) (hn : n = 5 + b + d + i * c + r) : spotF b c d n = (3, i, r) := by
  have hm := prod_lt hr h0 h1 h2 h3
  unfold Right at hr
  have he : n - (5 + b + d) = r + c * i := by rw [hn, Int.mul_comm c i]; omega
  have hdm := (Int.ediv_emod_unique (a := n - (5 + b + d)) (b := c) (r := r) (q := i) (by omega)).2 ⟨he.symm, h2, h3⟩
  unfold spotF; rw [if_neg (by omega), if_neg (by omega), if_neg (by omega), if_pos (by omega), hdm.1, hdm.2]
theorem spot_cell {a b c d : Int} (hr : Right a b c d) {i k n : Int} (h0 : 0 ≤ i) (h2 : 0 ≤ k) (h3 : k < 3) (hn : n = 5 + b + d + b * c + 3 * i + k) : spotF b c d n = (4 + k, i, 0) := by
  have hp := hr.prod
  unfold Right at hr
  unfold spotF; rw [if_neg (by omega), if_neg (by omega), if_neg (by omega), if_neg (by omega)]
  rw [show (n - (5 + b + d + b * c)) % 3 = k by omega, show (n - (5 + b + d + b * c)) / 3 = i by omega]
/-- How far All is: the first n places' spots lie in a row of its own. -/
structure Spots (w wr : World) (v : Value) (a b c d : Int) (n : Nat) : Prop where
  row : wr.ownsRow (w.heap.size + 1) 81 3 v n (flat b c d n)
  old : Below w.heap.size w wr
  box : BoxAt wr w.heap.size a b c d
theorem Spots.add {w wr w2 : World} {v v' : Value} {a b c d : Int} {n m : Nat} {news : List Value} (h : Spots w wr v a b c d n) (o : Obj) (hg : (wr.alloc o).grownBy w2 v.ownBlock)
    (hown : w2.ownsRow (w.heap.size + 1) 81 3 v' (n + m) (flat b c d n ++ news)) (e : flat b c d (n + m) = flat b c d n ++ news) : Spots w w2 v' a b c d (n + m) := by
  have hl := lt_of_cell h.box.1
  have hs : w.heap.size ≤ wr.heap.size := h.old.size
  have hne : some w.heap.size ≠ v.ownBlock := fun e => by have := (h.row.lt _ e.symm).1; omega
  have hb := h.box.below (below_new wr o)
  have k : ∀ j x, (wr.alloc o).cell? ⟨w.heap.size, j, none⟩ = some x → w2.cell? ⟨w.heap.size, j, none⟩ = some x := fun j x hx => by
    rw [hg.cell_far ⟨w.heap.size, j, none⟩ (by simp; omega) hne]; exact hx
  exact ⟨e ▸ hown, (below_on h.old o).grown hg (by simp; omega) (fun j e => by have := (h.row.lt j e).1; omega), ⟨k _ _ hb.1, k _ _ hb.2.1, k _ _ hb.2.2.1, k _ _ hb.2.2.2⟩⟩
theorem infoSpot : (Tryd.prog.info? 81).map (fun i => (i.zero, i.size, i.bytes)) = some (some (.agg #[.int .i64 0, .int .i64 0, .int .i64 0]), 3, 24) := by kernel_rfl
theorem all_wrong (a b c d : Int) (hr : ¬ Right a b c d) (w : World) :
    Calls Tryd.prog 40 #[.agg #[.int .i64 a, .int .i64 b, .int .i64 c, .int .i64 d]] w fun e w' => e = .returned (.slice none 0 0) ∧ Below w.heap.size w w' := by
  have HC := Lib.hid (refRight_wrong a b c d hr)
  have HB := Lib.hid (below_new w (.cells #[.int .i64 a, .int .i64 b, .int .i64 c, .int .i64 d] 23))
  clear hr
  go_enter Tryd.func40, Tryd.ntmps40
  go_wp2_with fail
  refine (HC.out _).mono ?_
  rintro e W ⟨rfl, hW⟩
  have HB1 := Lib.hid (belowOn HB.out hW)
  clear HB HC hW
  go_wp2_with fail
  go_ret
  exact ⟨rfl, HB1.out⟩
/-- What All answers. -/
def AllPost (w : World) (a b c d : Int) (e : Ending) (w' : World) : Prop :=
  ∃ (g cap n : Nat), e = .returned (.slice (some ⟨g, 0, none⟩) n cap) ∧ (n : Int) = 5 + b + d + b * c + 3 * a ∧ w'.ownsRow (w.heap.size + 1) 81 3 (.slice (some ⟨g, 0, none⟩) n cap) n (flat b c d n) ∧ Below w.heap.size w w'
set_option maxHeartbeats 12800000 in
theorem all_right (a b c d : Int) (hr : Right a b c d) (w : World) :
    Calls Tryd.prog 40 #[.agg #[.int .i64 a, .int .i64 b, .int .i64 c, .int .i64 d]] w (AllPost w a b c d) := by
  obtain ⟨i50, hi50, hz0, hz1, hz2⟩ := info_parts infoSpot
  have HX := Lib.hid (BoxAt.new w a b c d 23)
  have HB := Lib.hid (below_new w (.cells #[.int .i64 a, .int .i64 b, .int .i64 c, .int .i64 d] 23))
  have HC := Lib.hid (refRight_right a b c d hr)
  have HR := Lib.hid hr
  have hp1 : 1 ≤ b * c := hr.prod.1
  have hp2 : b * c ≤ 4032 := hr.prod.2
  obtain ⟨ha1, ha2, hb1, hb2, hc1, hc2, hd1, hd2⟩ := hr
  go_enter Tryd.func40, Tryd.ntmps40
  go_wp2_with fail
  refine (HC.out _).mono ?_
  rintro e W ⟨rfl, hW⟩
  have HS : Hid (Spots w W (.slice none 0 0) a b c d 0) := Lib.hid ⟨World.ownsRow_nil _ _ _ _, belowOn HB.out hW, HX.out.below hW⟩
  clear HX HB HC hW
  go_wp2_with fail
  go_loopw [3, 4] (fun v vi wr => ∃ i n : Nat, vi = .int .i64 i ∧ (i : Int) ≤ 5 ∧ n ≤ 20000 ∧ Hid ((n : Int) = 0 + i) ∧ Hid (Spots w wr v a b c d n)) (fun _ vi _ => 5 - (intOf vi).toNat)
  case atStart => exact ⟨0, 0, rfl, by omega, by omega, Lib.hid (by rfl), HS⟩
  case round =>
    clear HS
    obtain ⟨i, n, rfl, hi, hn20, HN, HS⟩ := hrel
    obtain ⟨x0, x1, x2, x3⟩ := HS.out.box
    have hm : w.heap.size ≤ wr.heap.size := HS.out.old.size
    have hm' : w.heap.size + 1 ≤ wr.heap.size := lt_of_cell x0
    by_cases hlt : (i : Int) < 5
    · have HF : Hid (flat b c d (n + 1) = flat b c d n ++ [.int .i64 0, .int .i64 i, .int .i64 0]) := Lib.hid (by rw [flat_succ, spot_once (by have := HN.out; omega)]; first | rfl | (have := HN.out; simp [trip]; omega))
      have HN' : Hid (((n + 1 : Nat) : Int) = 0 + ((i + 1 : Nat) : Int)) := Lib.hid (by have := HN.out; omega)
      have hn2 : n + 1 ≤ 20000 := by have := HN.out; omega
      clear HN
      go_wp2_with (at_builtin; refine wpList_append_lies _ (by rfl) _ _ _ (by rfl) (w.heap.size + 1) 81 i50 _ 3 24 Tryd.underlying83 hi50 hz0 hz1 hz2 rfl (by omega) u3 n _ (by rfl) (HS.out.row.alloc _) ⟨wr.heap.size, 0, none⟩ 1 1 [.int .i64 0, .int .i64 i, .int .i64 0] (by rfl) (by rfl) (World.news_of_block (cs := #[.int .i64 0, .int .i64 i, .int .i64 0]) (t := 81) (fr := (0, 0)) (heap_alloc_new wr _)) (by simp [Value.oneCell']) (by omega) (by unfold maxLen; omega) (by omega) (by simp; omega) (wr.heap.size + 1) (by simp) ?_; intro gg cap w2 hown1 hgrow hat hlt2)
      have HS' := Lib.hid (HS.out.add _ hgrow hown1 HF.out)
      clear hown1 hgrow hat hlt2 HF HS
      go_roundw
      case rel => exact ⟨i + 1, n + 1, by go_num, by omega, hn2, HN', HS'⟩
      case measure => simp [intOf]; omega
    · have hie : (i : Int) = 5 := by omega
      have HN0 : Hid ((n : Int) = 0 + 5) := Lib.hid (by have := HN.out; omega)
      clear HN hie
      have HN := HN0; clear HN0
      go_wp2_with fail
      clear hi hlt
      go_loopw [3, 5] (fun v vi wr => ∃ i n : Nat, vi = .int .i64 i ∧ (i : Int) ≤ b ∧ n ≤ 20000 ∧ Hid ((n : Int) = 0 + 5 + i) ∧ Hid (Spots w wr v a b c d n)) (fun _ vi _ => b.toNat - (intOf vi).toNat)
      case atStart => exact ⟨0, n, rfl, by omega, by omega, Lib.hid (by have := HN.out; omega), HS⟩
      case round =>
        clear HS HN
        clear hn20
        try clear x0 x1 x2 x3
        obtain ⟨i, n, rfl, hi, hn20, HN, HS⟩ := hrel
        obtain ⟨x0, x1, x2, x3⟩ := HS.out.box
        have hm : w.heap.size ≤ wr.heap.size := HS.out.old.size
        have hm' : w.heap.size + 1 ≤ wr.heap.size := lt_of_cell x0
        by_cases hlt : (i : Int) < b
        · have HF : Hid (flat b c d (n + 1) = flat b c d n ++ [.int .i64 1, .int .i64 i, .int .i64 0]) := Lib.hid (by rw [flat_succ, spot_in (by have := HN.out; omega) (by have := HN.out; omega)]; first | rfl | (have := HN.out; simp [trip]; omega))
          have HN' : Hid (((n + 1 : Nat) : Int) = 0 + 5 + ((i + 1 : Nat) : Int)) := Lib.hid (by have := HN.out; omega)
          have hn2 : n + 1 ≤ 20000 := by have := HN.out; omega
          clear HN
          go_wp2_with (at_builtin; refine wpList_append_lies _ (by rfl) _ _ _ (by rfl) (w.heap.size + 1) 81 i50 _ 3 24 Tryd.underlying83 hi50 hz0 hz1 hz2 rfl (by omega) u3 n _ (by rfl) (HS.out.row.alloc _) ⟨wr.heap.size, 0, none⟩ 1 1 [.int .i64 1, .int .i64 i, .int .i64 0] (by rfl) (by rfl) (World.news_of_block (cs := #[.int .i64 1, .int .i64 i, .int .i64 0]) (t := 81) (fr := (0, 0)) (heap_alloc_new wr _)) (by simp [Value.oneCell']) (by omega) (by unfold maxLen; omega) (by omega) (by simp; omega) (wr.heap.size + 1) (by simp) ?_; intro gg cap w2 hown1 hgrow hat hlt2)
          have HS' := Lib.hid (HS.out.add _ hgrow hown1 HF.out)
          clear hown1 hgrow hat hlt2 HF HS
          go_roundw
          case rel => exact ⟨i + 1, n + 1, by go_num, by omega, hn2, HN', HS'⟩
          case measure => simp [intOf]; omega
        · have hie : (i : Int) = b := by omega
          have HN0 : Hid ((n : Int) = 0 + 5 + b) := Lib.hid (by have := HN.out; omega)
          clear HN hie
          have HN := HN0; clear HN0
          go_wp2_with fail
          clear hi hlt
          go_loopw [3, 6] (fun v vi wr => ∃ i n : Nat, vi = .int .i64 i ∧ (i : Int) ≤ d ∧ n ≤ 20000 ∧ Hid ((n : Int) = 0 + 5 + b + i) ∧ Hid (Spots w wr v a b c d n)) (fun _ vi _ => d.toNat - (intOf vi).toNat)
          case atStart => exact ⟨0, n, rfl, by omega, by omega, Lib.hid (by have := HN.out; omega), HS⟩
          case round =>
            clear HS HN
            clear hn20
            try clear x0 x1 x2 x3
            obtain ⟨i, n, rfl, hi, hn20, HN, HS⟩ := hrel
            obtain ⟨x0, x1, x2, x3⟩ := HS.out.box
            have hm : w.heap.size ≤ wr.heap.size := HS.out.old.size
            have hm' : w.heap.size + 1 ≤ wr.heap.size := lt_of_cell x0
            by_cases hlt : (i : Int) < d
            · have HF : Hid (flat b c d (n + 1) = flat b c d n ++ [.int .i64 2, .int .i64 i, .int .i64 0]) := Lib.hid (by rw [flat_succ, spot_glob (by have := HN.out; omega) (by have := HN.out; omega) (by have := HN.out; omega)]; first | rfl | (have := HN.out; simp [trip]; omega))
              have HN' : Hid (((n + 1 : Nat) : Int) = 0 + 5 + b + ((i + 1 : Nat) : Int)) := Lib.hid (by have := HN.out; omega)
              have hn2 : n + 1 ≤ 20000 := by have := HN.out; omega
              clear HN
              go_wp2_with (at_builtin; refine wpList_append_lies _ (by rfl) _ _ _ (by rfl) (w.heap.size + 1) 81 i50 _ 3 24 Tryd.underlying83 hi50 hz0 hz1 hz2 rfl (by omega) u3 n _ (by rfl) (HS.out.row.alloc _) ⟨wr.heap.size, 0, none⟩ 1 1 [.int .i64 2, .int .i64 i, .int .i64 0] (by rfl) (by rfl) (World.news_of_block (cs := #[.int .i64 2, .int .i64 i, .int .i64 0]) (t := 81) (fr := (0, 0)) (heap_alloc_new wr _)) (by simp [Value.oneCell']) (by omega) (by unfold maxLen; omega) (by omega) (by simp; omega) (wr.heap.size + 1) (by simp) ?_; intro gg cap w2 hown1 hgrow hat hlt2)
              have HS' := Lib.hid (HS.out.add _ hgrow hown1 HF.out)
              clear hown1 hgrow hat hlt2 HF HS
              go_roundw
              case rel => exact ⟨i + 1, n + 1, by go_num, by omega, hn2, HN', HS'⟩
              case measure => simp [intOf]; omega
            · have hie : (i : Int) = d := by omega
              have HN0 : Hid ((n : Int) = 0 + 5 + b + d) := Lib.hid (by have := HN.out; omega)
              clear HN hie
              have HN := HN0; clear HN0
              go_wp2_with fail
              clear hi hlt
              go_loopw [3, 7] (fun v vi wr => ∃ i n : Nat, vi = .int .i64 i ∧ (i : Int) ≤ b ∧ n ≤ 20000 ∧ Hid ((n : Int) = 5 + b + d + i * c) ∧ Hid (Spots w wr v a b c d n)) (fun _ vi _ => b.toNat - (intOf vi).toNat)
              case atStart => exact ⟨0, n, rfl, by omega, by omega, Lib.hid (by have := HN.out; simp; omega), HS⟩
              case round =>
                clear HS HN
                clear hn20
                try clear x0 x1 x2 x3
                obtain ⟨i, n, rfl, hi, hn20, HN, HS⟩ := hrel
                obtain ⟨x0, x1, x2, x3⟩ := HS.out.box
                by_cases hlt : (i : Int) < b
                · go_wp2_with fail
                  go_loopw [3, 8] (fun v vr wr => ∃ r n : Nat, vr = .int .i64 r ∧ (r : Int) ≤ c ∧ n ≤ 20000 ∧ Hid ((n : Int) = 5 + b + d + i * c + r) ∧ Hid (Spots w wr v a b c d n)) (fun _ vr _ => c.toNat - (intOf vr).toNat)
                  case atStart => exact ⟨0, n, rfl, by omega, hn20, Lib.hid (by have := HN.out; omega), HS⟩
                  case round =>
                    clear HS HN
                    clear hn20 x0 x1 x2 x3
                    obtain ⟨r, n, rfl, hrc, hn20, HN, HS⟩ := hrel
                    obtain ⟨x0, x1, x2, x3⟩ := HS.out.box
                    have hm : w.heap.size ≤ wr.heap.size := HS.out.old.size
                    have hm' : w.heap.size + 1 ≤ wr.heap.size := lt_of_cell x0
                    by_cases hltr : (r : Int) < c
                    · have HF : Hid (flat b c d (n + 1) = flat b c d n ++ [.int .i64 3, .int .i64 i, .int .i64 r]) := Lib.hid (by rw [flat_succ, spot_reg HR.out (by omega : (0 : Int) ≤ i) hlt (by omega : (0 : Int) ≤ r) hltr HN.out]; rfl)
                      have HN' : Hid (((n + 1 : Nat) : Int) = 5 + b + d + i * c + ((r + 1 : Nat) : Int)) := Lib.hid (by have := HN.out; omega)
                      have hn2 : n + 1 ≤ 20000 := by
                        have h1 := prod_lt HR.out (by omega : (0 : Int) ≤ i) hlt (by omega : (0 : Int) ≤ r) hltr
                        have := HN.out
                        omega
                      clear HN
                      go_wp2_with (at_builtin; refine wpList_append_lies _ (by rfl) _ _ _ (by rfl) (w.heap.size + 1) 81 i50 _ 3 24 Tryd.underlying83 hi50 hz0 hz1 hz2 rfl (by omega) u3 n _ (by rfl) (HS.out.row.alloc _) ⟨wr.heap.size, 0, none⟩ 1 1 [.int .i64 3, .int .i64 i, .int .i64 r] (by rfl) (by rfl) (World.news_of_block (cs := #[.int .i64 3, .int .i64 i, .int .i64 r]) (t := 81) (fr := (0, 0)) (heap_alloc_new wr _)) (by simp [Value.oneCell']) (by omega) (by unfold maxLen; omega) (by omega) (by simp; omega) (wr.heap.size + 1) (by simp) ?_; intro gg cap w2 hown1 hgrow hat hlt2)
                      have HS' := Lib.hid (HS.out.add _ hgrow hown1 HF.out)
                      clear hown1 hgrow hat hlt2 HF HS
                      go_roundw
                      case rel => exact ⟨r + 1, n + 1, by go_num, by omega, hn2, HN', HS'⟩
                      case measure => simp [intOf]; omega
                    · have HN' : Hid ((n : Int) = 5 + b + d + ((i + 1 : Nat) : Int) * c) := Lib.hid (by rw [mul_step, HN.out]; omega)
                      clear HN
                      go_wp2_with fail
                      go_roundw
                      case rel => exact ⟨i + 1, n, by go_num, by omega, hn20, HN', HS⟩
                      case measure => simp [intOf]; omega
                · have hib : (i : Int) = b := by omega
                  have HN0 : Hid ((n : Int) = 5 + b + d + b * c) := Lib.hid (by rw [HN.out, hib])
                  clear HN hib
                  go_wp2_with fail
                  clear hi hlt
                  go_loopw [3, 9] (fun v vi wr => ∃ i n : Nat, vi = .int .i64 i ∧ (i : Int) ≤ a ∧ n ≤ 20000 ∧ Hid ((n : Int) = 5 + b + d + b * c + 3 * i) ∧ Hid (Spots w wr v a b c d n)) (fun _ vi _ => a.toNat - (intOf vi).toNat)
                  case atStart => exact ⟨0, n, rfl, by omega, hn20, Lib.hid (by rw [HN0.out]; simp), HS⟩
                  case round =>
                    clear HS HN0
                    clear hn20 x0 x1 x2 x3
                    obtain ⟨i, n, rfl, hi, hn20, HN, HS⟩ := hrel
                    obtain ⟨x0, x1, x2, x3⟩ := HS.out.box
                    have hm : w.heap.size ≤ wr.heap.size := HS.out.old.size
                    have hm' : w.heap.size + 1 ≤ wr.heap.size := lt_of_cell x0
                    by_cases hlt : (i : Int) < a
                    · have HF : Hid (flat b c d (n + 3) = flat b c d n ++ [.int .i64 4, .int .i64 i, .int .i64 0, .int .i64 5, .int .i64 i, .int .i64 0, .int .i64 6, .int .i64 i, .int .i64 0]) := Lib.hid (by
                        have hn := HN.out
                        rw [flat_succ, flat_succ, flat_succ, spot_cell HR.out (k := 0) (by omega : (0 : Int) ≤ i) (by omega) (by omega) (by omega), spot_cell HR.out (k := 1) (by omega : (0 : Int) ≤ i) (by omega) (by omega) (by omega), spot_cell HR.out (k := 2) (by omega : (0 : Int) ≤ i) (by omega) (by omega) (by omega)]
                        simp [trip])
                      have HN' : Hid (((n + 3 : Nat) : Int) = 5 + b + d + b * c + 3 * ((i + 1 : Nat) : Int)) := Lib.hid (by have := HN.out; omega)
                      have hn2 : n + 3 ≤ 20000 := by have := HN.out; omega
                      clear HN
                      go_wp2_with (at_builtin; refine wpList_append_lies _ (by rfl) _ _ _ (by rfl) (w.heap.size + 1) 81 i50 _ 3 24 Tryd.underlying83 hi50 hz0 hz1 hz2 rfl (by omega) u3 n _ (by rfl) (HS.out.row.alloc _) ⟨wr.heap.size, 0, none⟩ 3 3 [.int .i64 4, .int .i64 i, .int .i64 0, .int .i64 5, .int .i64 i, .int .i64 0, .int .i64 6, .int .i64 i, .int .i64 0] (by rfl) (by rfl) (World.news_of_block (cs := #[.int .i64 4, .int .i64 i, .int .i64 0, .int .i64 5, .int .i64 i, .int .i64 0, .int .i64 6, .int .i64 i, .int .i64 0]) (t := 81) (fr := (0, 0)) (heap_alloc_new wr _)) (by simp [Value.oneCell']) (by omega) (by unfold maxLen; omega) (by omega) (by simp; omega) (wr.heap.size + 1) (by simp) ?_; intro gg cap w2 hown1 hgrow hat hlt2)
                      have HS' := Lib.hid (HS.out.add _ hgrow hown1 HF.out)
                      clear hown1 hgrow hat hlt2 HF HS
                      go_roundw
                      case rel => exact ⟨i + 1, n + 3, by go_num, by omega, hn2, HN', HS'⟩
                      case measure => simp [intOf]; omega
                    · have hia : (i : Int) = a := by omega
                      have HN0 : Hid ((n : Int) = 5 + b + d + b * c + 3 * a) := Lib.hid (by rw [HN.out, hia])
                      have hn0 : 0 < n := by have := HN0.out; omega
                      clear HN hia
                      obtain ⟨g, cap, rfl, hg, hgl⟩ := HS.out.row.form hn0
                      go_wp2_with fail
                      go_ret
                      exact ⟨g, cap, n, rfl, HN0.out, HS.out.row, HS.out.old⟩
end Go.Proofs.YtgjbabndpmkccaaDoor
