/- Package config's Text, for every configuration: of a right one the four names, each followed by its number, with a space between two of these; of any other the empty text. -/
import Derived.Test.YtiifeocfphojaaaDoorRounds
import Derived.Test.YtiifeocfphojaaaDoorShelfA
import Derived.Deep.AppendLies
import Derived.OwnWalk
import Derived.WalkSpells
import Derived.Lib.AppendIntMem
import Derived.Lib.ItoaLen
namespace Go.Proofs.YtiifeocfphojaaaDoor
open Go Go.RowKit
set_option maxRecDepth 100000
attribute [local go_sem ↓] Go.wp_at_zero Go.wp_at_succ

/-- What the listed variables hold, and that the library's own limit holds a number. -/
structure Laid (w : World) : Prop where
  spans : SpansAt w
  pow : Lib.TabIs Tryd.prog w "internal/strconv.uint64pow10" .u64 Lib.pow10Tab
  bad : ∃ te pe, w.cell? ⟨3, 0, none⟩ = some (.iface te pe)
  far : ∃ te pe, w.cell? ⟨4, 0, none⟩ = some (.iface te pe)
  len : ∃ m : Int, w.cell? ⟨2, 0, none⟩ = some (.int .i64 m)
theorem Laid.below {w w' : World} (h : Laid w) (hb : Below w.heap.size w w') : Laid w' := by
  obtain ⟨h1, h2, ⟨a, b, h3⟩, ⟨c, d, h4⟩, ⟨m, h5⟩⟩ := h
  exact ⟨h1.below hb, Lib.tabBelow_of_tabIs h2 w' hb, ⟨a, b, (hb.cell (p := ⟨_, 0, none⟩) (lt_of_cell h3)).trans h3⟩, ⟨c, d, (hb.cell (p := ⟨_, 0, none⟩) (lt_of_cell h4)).trans h4⟩, ⟨m, (hb.cell (p := ⟨_, 0, none⟩) (lt_of_cell h5)).trans h5⟩⟩

/-- The words of a configuration's text. -/
def wordsL (a b c d : Int) : List (List UInt8) := [[99, 101, 108, 108, 115], Lib.itoa a, [109, 117, 116, 115], Lib.itoa b, [114, 101, 103, 115], Lib.itoa c, [103, 108, 111, 98, 115], Lib.itoa d]
def wordsA (a b c d : Int) : List ByteArray := (wordsL a b c d).map fun l => ⟨l.toArray⟩
def textC (a b c d : Int) : List UInt8 := Lib.join (wordsL a b c d) [32]
theorem words_back (a b c d : Int) : (wordsA a b c d).map (·.data.toList) = wordsL a b c d := by simp [wordsA, wordsL]
theorem itoa_short (n : Int) (h0 : 0 ≤ n) (h1 : n ≤ 4096) : (Lib.itoa n).length ≤ 20 := by
  unfold Lib.itoa
  rw [if_neg (by omega), Lib.decDigits_length]
  exact Lib.nDigits_le20 _ (by omega)
theorem textC_short {a b c d : Int} (h : Right a b c d) : (textC a b c d).length ≤ 200 := by
  obtain ⟨h1, h2, h3, h4, h5, h6, h7, h8⟩ := h
  have l1 := itoa_short a (by omega) (by omega)
  have l2 := itoa_short b (by omega) (by omega)
  have l3 := itoa_short c (by omega) (by omega)
  have l4 := itoa_short d (by omega) (by omega)
  unfold textC wordsL
  rw [Lib.join_length]
  simp [Lib.lens]
  omega
theorem ownsRow_below {w w' : World} {base : Nat} {e : TypeId} {size : Nat} {v : Value} {n : Nat} {xs : List Value} (h : w.ownsRow base e size v n xs) (hb : Below w.heap.size w w') : w'.ownsRow base e size v n xs :=
  h.kept (row := none) ⟨hb.os, hb.tape, hb.output, hb.size, fun k hk _ => hb.block k hk⟩ (by cases h' : v.ownBlock with | none => exact .inl rfl | some x => exact .inr (by simp))
open Go.Sort Go.Lib in
theorem grow_below (w : World) (k : Nat) (os : Array Obj) : Below w.heap.size w (grow (w.drewN k) os) := below_grow _ _ (Nat.le_refl _) _ _
theorem itoa_c (n : Int) (h0 : 0 ≤ n) (h1 : n ≤ 4096) (w : World) (hL : Laid w) :
    Calls Tryd.prog 20 #[.int .i64 n] w fun e w' => e = .returned (.string ⟨(Lib.itoa n).toArray⟩) ∧ Below w.heap.size w w' :=
  (Tryd.strconv_Itoa n (by omega) (by omega) w hL.pow).mono fun e w' ⟨he, k, os, hw⟩ => ⟨he, hw ▸ grow_below w k os⟩
theorem infoString : (Tryd.prog.info? 9).map (fun i => (i.zero, i.size, i.bytes)) = some (some (.string ByteArray.empty), 1, 16) := by kernel_rfl
/-- How far Text's loop is. -/
def Texts (w wr : World) (v : Value) (a b c d : Int) (k : Nat) : Prop := wr.ownsRow w.heap.size 9 1 v (2 * k) (((wordsA a b c d).take (2 * k)).map Value.string) ∧ Below w.heap.size w wr
theorem text_wrong (a b c d : Int) (hr : ¬ Right a b c d) (w : World) (hL : Laid w) :
    Calls Tryd.prog 9 #[.agg #[.int .i64 a, .int .i64 b, .int .i64 c, .int .i64 d]] w fun e w' => e = .returned (.string ⟨#[]⟩) ∧ Below w.heap.size w w' := by
  have hb := below_new w (.cells #[.int .i64 a, .int .i64 b, .int .i64 c, .int .i64 d] 23)
  have HC := Lib.hid (check_wrong a b c d hr _ (hL.spans.below hb))
  have HB := Lib.hid hb
  clear hL hb hr
  go_enter Tryd.func9, Tryd.ntmps9
  go_wp2_with fail
  refine HC.out.mono ?_
  rintro e W ⟨rfl, hW⟩
  have HB1 := Lib.hid (belowOn HB.out hW)
  clear HB HC hW
  go_wp2_with fail
  go_ret
  exact ⟨rfl, HB1.out⟩
set_option maxHeartbeats 6400000 in
theorem text_right (a b c d : Int) (hr : Right a b c d) (w : World) (hL : Laid w) :
    Calls Tryd.prog 9 #[.agg #[.int .i64 a, .int .i64 b, .int .i64 c, .int .i64 d]] w fun e w' => e = .returned (.string ⟨(textC a b c d).toArray⟩) ∧ Below w.heap.size w w' := by
  obtain ⟨i9, hi9, hz0, hz1, hz2⟩ := info_parts infoString
  have hb := below_new w (.cells #[.int .i64 a, .int .i64 b, .int .i64 c, .int .i64 d] 23)
  have HC := Lib.hid (check_right a b c d hr _ (hL.spans.below hb))
  have HX := Lib.hid (BoxAt.new w a b c d 23)
  have HB := Lib.hid hb
  have HR := Lib.hid hr
  have HL := Lib.hid hL
  clear hL hb hr
  go_enter Tryd.func9, Tryd.ntmps9
  go_wp2_with fail
  refine HC.out.mono ?_
  rintro e W0 ⟨rfl, hW⟩
  have HB1 := Lib.hid (belowOn HB.out hW)
  obtain ⟨x0, x1, x2, x3⟩ := HX.out.below hW
  clear HX HB HC hW
  go_wp2_with fail
  refine (numbers_c a b c d _).mono ?_
  rintro e W ⟨rfl, hW⟩
  have HB := Lib.hid (belowOn HB1.out hW)
  clear HB1 hW x0 x1 x2 x3
  go_wp2_with fail
  have i0 := index0 a b c d; have i1 := index1 a b c d; have i2 := index2 a b c d; have i3 := index3 a b c d
  go_loopw [3, 11] (fun v vi wr => ∃ k : Nat, vi = .int .i64 k ∧ k ≤ 4 ∧ Hid (Texts w wr v a b c d k)) (fun _ vi _ => 4 - (intOf vi).toNat)
  case atStart => exact ⟨0, rfl, by omega, Lib.hid ⟨World.ownsRow_nil _ _ _ _, HB.out⟩⟩
  case round =>
    obtain ⟨k, rfl, hk, HT⟩ := hrel
    obtain rfl | rfl | rfl | rfl | rfl : k = 0 ∨ k = 1 ∨ k = 2 ∨ k = 3 ∨ k = 4 := by omega
    · obtain ⟨hO, hB⟩ := HT.out
      have hLr := HL.out.below hB
      have HLr := Lib.hid hLr
      have hs := hLr.spans.1.1
      have hx : 0 ≤ a ∧ a ≤ 4096 := by have := HR.out; unfold Right at this; omega
      have HI := Lib.hid (itoa_c a hx.1 hx.2)
      have hne : some 0 ≠ u3.ownBlock := fun e => by
        have h1 := (hO.lt _ e.symm).1
        have h2 := lt_of_cell HL.out.spans.1.1
        omega
      have hlt0 := lt_of_cell hs
      have HO := Lib.hid hO; have HBr := Lib.hid hB
      have hm : w.heap.size ≤ wr.heap.size := hB.size
      clear HT hO hB hLr hx
      go_wp2_with fail
      go_region_held3 (fun w' => w'.cell? ⟨0, 0, none⟩ = some (.string ⟨#[99, 101, 108, 108, 115]⟩)) (first | assumption | go_keep | (rw [hgrow.cell_far _ (by first | (simp; done) | (simp; omega)) hne]; assumption))
        (first
          | (go_at_call 20; refine (HI.out _ ?_).mono ?_; exact HLr.out.below (Below.refl _ _).drew; rintro e w1 ⟨rfl, hW⟩; have hO := ownsRow_below HO.out.drew hW; have hS := (hW.cell (p := ⟨0, 0, none⟩) (lt_of_cell (by assumption))).trans (by assumption))
          | (refine step_append_lies _ (by rfl) _ _ _ (by rfl) w.heap.size 9 i9 _ 1 16 Tryd.underlying36 hi9 hz0 hz1 hz2 rfl (by omega) u3 (2 * 0) _ (by rfl) (hO.alloc _)
              ⟨w1.heap.size, 0, none⟩ 2 2 [.string ⟨#[99, 101, 108, 108, 115]⟩, .string ⟨(Lib.itoa a).toArray⟩] (by rfl) (by rfl) (World.news_of_block (cs := #[.string ⟨#[99, 101, 108, 108, 115]⟩, .string ⟨(Lib.itoa a).toArray⟩]) (t := 9) (fr := (0, 0)) (heap_alloc_new w1 _)) (by simp [Value.oneCell'])
              (by omega) (by unfold maxLen; omega) (by omega) (by have := hW.size; simp at this ⊢; omega) (w1.heap.size + 1) (by simp) ?_; intro gg cap w2 hown1 hgrow hat hlt))
      have HN : Hid (Texts w w2 (.slice (some ⟨gg, 0, none⟩) (2 * 0 + 2) cap) a b c d 1) := Lib.hid ⟨hown1, (below_on (belowOn HBr.out.drew hW) _).grown hgrow (by have := hW.size; simp at this ⊢; omega) (fun j e => (hO.lt j e).1)⟩
      clear hown1 hgrow hat hlt hO hS hW HO HBr HI HLr
      go_wp2
      go_roundw
      case rel => exact ⟨1, by go_num, by omega, HN⟩
      case measure => simp [intOf]
    · obtain ⟨hO, hB⟩ := HT.out
      have hLr := HL.out.below hB
      have HLr := Lib.hid hLr
      have hs := hLr.spans.2.1.1
      have hx : 0 ≤ b ∧ b ≤ 4096 := by have := HR.out; unfold Right at this; omega
      have HI := Lib.hid (itoa_c b hx.1 hx.2)
      have hne : some 0 ≠ u3.ownBlock := fun e => by
        have h1 := (hO.lt _ e.symm).1
        have h2 := lt_of_cell HL.out.spans.1.1
        omega
      have hlt0 := lt_of_cell hs
      have HO := Lib.hid hO; have HBr := Lib.hid hB
      have hm : w.heap.size ≤ wr.heap.size := hB.size
      clear HT hO hB hLr hx
      go_wp2_with fail
      go_region_held3 (fun w' => w'.cell? ⟨0, 3, none⟩ = some (.string ⟨#[109, 117, 116, 115]⟩)) (first | assumption | go_keep | (rw [hgrow.cell_far _ (by first | (simp; done) | (simp; omega)) hne]; assumption))
        (first
          | (go_at_call 20; refine (HI.out _ ?_).mono ?_; exact HLr.out.below (Below.refl _ _).drew; rintro e w1 ⟨rfl, hW⟩; have hO := ownsRow_below HO.out.drew hW; have hS := (hW.cell (p := ⟨0, 3, none⟩) (lt_of_cell (by assumption))).trans (by assumption))
          | (refine step_append_lies _ (by rfl) _ _ _ (by rfl) w.heap.size 9 i9 _ 1 16 Tryd.underlying36 hi9 hz0 hz1 hz2 rfl (by omega) u3 (2 * 1) _ (by rfl) (hO.alloc _)
              ⟨w1.heap.size, 0, none⟩ 2 2 [.string ⟨#[109, 117, 116, 115]⟩, .string ⟨(Lib.itoa b).toArray⟩] (by rfl) (by rfl) (World.news_of_block (cs := #[.string ⟨#[109, 117, 116, 115]⟩, .string ⟨(Lib.itoa b).toArray⟩]) (t := 9) (fr := (0, 0)) (heap_alloc_new w1 _)) (by simp [Value.oneCell'])
              (by omega) (by unfold maxLen; omega) (by omega) (by have := hW.size; simp at this ⊢; omega) (w1.heap.size + 1) (by simp) ?_; intro gg cap w2 hown1 hgrow hat hlt))
      have HN : Hid (Texts w w2 (.slice (some ⟨gg, 0, none⟩) (2 * 1 + 2) cap) a b c d 2) := Lib.hid ⟨hown1, (below_on (belowOn HBr.out.drew hW) _).grown hgrow (by have := hW.size; simp at this ⊢; omega) (fun j e => (hO.lt j e).1)⟩
      clear hown1 hgrow hat hlt hO hS hW HO HBr HI HLr
      go_wp2
      go_roundw
      case rel => exact ⟨2, by go_num, by omega, HN⟩
      case measure => simp [intOf]
    · obtain ⟨hO, hB⟩ := HT.out
      have hLr := HL.out.below hB
      have HLr := Lib.hid hLr
      have hs := hLr.spans.2.2.1.1
      have hx : 0 ≤ c ∧ c ≤ 4096 := by have := HR.out; unfold Right at this; omega
      have HI := Lib.hid (itoa_c c hx.1 hx.2)
      have hne : some 0 ≠ u3.ownBlock := fun e => by
        have h1 := (hO.lt _ e.symm).1
        have h2 := lt_of_cell HL.out.spans.1.1
        omega
      have hlt0 := lt_of_cell hs
      have HO := Lib.hid hO; have HBr := Lib.hid hB
      have hm : w.heap.size ≤ wr.heap.size := hB.size
      clear HT hO hB hLr hx
      go_wp2_with fail
      go_region_held3 (fun w' => w'.cell? ⟨0, 6, none⟩ = some (.string ⟨#[114, 101, 103, 115]⟩)) (first | assumption | go_keep | (rw [hgrow.cell_far _ (by first | (simp; done) | (simp; omega)) hne]; assumption))
        (first
          | (go_at_call 20; refine (HI.out _ ?_).mono ?_; exact HLr.out.below (Below.refl _ _).drew; rintro e w1 ⟨rfl, hW⟩; have hO := ownsRow_below HO.out.drew hW; have hS := (hW.cell (p := ⟨0, 6, none⟩) (lt_of_cell (by assumption))).trans (by assumption))
          | (refine step_append_lies _ (by rfl) _ _ _ (by rfl) w.heap.size 9 i9 _ 1 16 Tryd.underlying36 hi9 hz0 hz1 hz2 rfl (by omega) u3 (2 * 2) _ (by rfl) (hO.alloc _)
              ⟨w1.heap.size, 0, none⟩ 2 2 [.string ⟨#[114, 101, 103, 115]⟩, .string ⟨(Lib.itoa c).toArray⟩] (by rfl) (by rfl) (World.news_of_block (cs := #[.string ⟨#[114, 101, 103, 115]⟩, .string ⟨(Lib.itoa c).toArray⟩]) (t := 9) (fr := (0, 0)) (heap_alloc_new w1 _)) (by simp [Value.oneCell'])
              (by omega) (by unfold maxLen; omega) (by omega) (by have := hW.size; simp at this ⊢; omega) (w1.heap.size + 1) (by simp) ?_; intro gg cap w2 hown1 hgrow hat hlt))
      have HN : Hid (Texts w w2 (.slice (some ⟨gg, 0, none⟩) (2 * 2 + 2) cap) a b c d 3) := Lib.hid ⟨hown1, (below_on (belowOn HBr.out.drew hW) _).grown hgrow (by have := hW.size; simp at this ⊢; omega) (fun j e => (hO.lt j e).1)⟩
      clear hown1 hgrow hat hlt hO hS hW HO HBr HI HLr
      go_wp2
      go_roundw
      case rel => exact ⟨3, by go_num, by omega, HN⟩
      case measure => simp [intOf]
    · obtain ⟨hO, hB⟩ := HT.out
      have hLr := HL.out.below hB
      have HLr := Lib.hid hLr
      have hs := hLr.spans.2.2.2.1
      have hx : 0 ≤ d ∧ d ≤ 4096 := by have := HR.out; unfold Right at this; omega
      have HI := Lib.hid (itoa_c d hx.1 hx.2)
      have hne : some 0 ≠ u3.ownBlock := fun e => by
        have h1 := (hO.lt _ e.symm).1
        have h2 := lt_of_cell HL.out.spans.1.1
        omega
      have hlt0 := lt_of_cell hs
      have HO := Lib.hid hO; have HBr := Lib.hid hB
      have hm : w.heap.size ≤ wr.heap.size := hB.size
      clear HT hO hB hLr hx
      go_wp2_with fail
      go_region_held3 (fun w' => w'.cell? ⟨0, 9, none⟩ = some (.string ⟨#[103, 108, 111, 98, 115]⟩)) (first | assumption | go_keep | (rw [hgrow.cell_far _ (by first | (simp; done) | (simp; omega)) hne]; assumption))
        (first
          | (go_at_call 20; refine (HI.out _ ?_).mono ?_; exact HLr.out.below (Below.refl _ _).drew; rintro e w1 ⟨rfl, hW⟩; have hO := ownsRow_below HO.out.drew hW; have hS := (hW.cell (p := ⟨0, 9, none⟩) (lt_of_cell (by assumption))).trans (by assumption))
          | (refine step_append_lies _ (by rfl) _ _ _ (by rfl) w.heap.size 9 i9 _ 1 16 Tryd.underlying36 hi9 hz0 hz1 hz2 rfl (by omega) u3 (2 * 3) _ (by rfl) (hO.alloc _)
              ⟨w1.heap.size, 0, none⟩ 2 2 [.string ⟨#[103, 108, 111, 98, 115]⟩, .string ⟨(Lib.itoa d).toArray⟩] (by rfl) (by rfl) (World.news_of_block (cs := #[.string ⟨#[103, 108, 111, 98, 115]⟩, .string ⟨(Lib.itoa d).toArray⟩]) (t := 9) (fr := (0, 0)) (heap_alloc_new w1 _)) (by simp [Value.oneCell'])
              (by omega) (by unfold maxLen; omega) (by omega) (by have := hW.size; simp at this ⊢; omega) (w1.heap.size + 1) (by simp) ?_; intro gg cap w2 hown1 hgrow hat hlt))
      have HN : Hid (Texts w w2 (.slice (some ⟨gg, 0, none⟩) (2 * 3 + 2) cap) a b c d 4) := Lib.hid ⟨hown1, (below_on (belowOn HBr.out.drew hW) _).grown hgrow (by have := hW.size; simp at this ⊢; omega) (fun j e => (hO.lt j e).1)⟩
      clear hown1 hgrow hat hlt hO hS hW HO HBr HI HLr
      go_wp2
      go_roundw
      case rel => exact ⟨4, by go_num, by omega, HN⟩
      case measure => simp [intOf]
    · obtain ⟨hO, hB⟩ := HT.out
      obtain ⟨g, cap, rfl, hg, hgl⟩ := hO.form (by omega)
      have hcap : 8 ≤ cap := by
        rcases hO.2 with ⟨h, _⟩ | ⟨g', cap', cur, h, _, _, h', _⟩
        · cases h
        · cases h; exact h'
      have hcells : ∀ (j : Nat) x, (wordsA a b c d)[j]? = some x → wr.cell? ⟨g, 0 + j, none⟩ = some (.string x) := fun j x h => by
        have := hO.cells rfl j (.string x) (by
          have h8 : ((wordsA a b c d).take (2 * 4)) = wordsA a b c d := rfl
          rw [h8, List.getElem?_map, h]; rfl)
        rw [Addr.add_lit] at this
        exact this
      have hJ := Tryd.strings_Join g 0 cap (wordsA a b c d) ⟨#[32]⟩ wr hcells hgl (show (8 : Nat) ≤ _ by decide) hcap (by
        have := textC_short HR.out
        rw [words_back]
        exact Nat.le_trans this (by decide))
      rw [words_back] at hJ
      have HJ := Lib.hid hJ
      have HBr := Lib.hid hB
      clear HT hO hB hcells hJ
      go_wp2_with fail
      refine HJ.out.mono ?_
      rintro e w' ⟨rfl, hW⟩
      go_wp2_with fail
      go_ret
      exact ⟨rfl, belowOn HBr.out hW⟩
end Go.Proofs.YtiifeocfphojaaaDoor
