/- Package place's name and Name: for every right configuration the name of every place, as the document says it of what lies there; of any other place, and of a configuration that isn't right, the empty text. -/
import Derived.Test.YtdhejdehlomppaaDoorPlaceAt
import Derived.Test.YtdhejdehlomppaaDoorShelfA
import Derived.Deep.AppendLies
import Derived.Laws.OwnMore
import Derived.OwnWalk
import Derived.WalkSpells
import Derived.Lib.AppendIntMem
import Derived.Lib.ItoaLen
namespace Go.Proofs.YtdhejdehlomppaaDoor
open Go Go.RowKit
set_option maxRecDepth 100000
attribute [local go_sem ↓] Go.wp_at_zero Go.wp_at_succ

def onceN (n : Int) : List UInt8 := if n = 0 then [102, 114, 101, 101] else if n = 1 then [103, 97, 116, 101] else if n = 2 then [100, 105, 114, 116, 121] else if n = 3 then [110, 101, 120, 116] else [115, 101, 114, 118, 101]
def kindN (n : Int) : List UInt8 := if n = 1 then [105, 110] else if n = 2 then [103, 108, 111, 98] else if n = 3 then [114, 101, 103] else if n = 4 then [99, 97, 114] else if n = 5 then [99, 100, 114] else [99, 111, 108, 111, 117, 114]
/-- The words of a name, with a space between. -/
def nm (what : List UInt8) (zs : List Int) : List UInt8 := Lib.join (what :: zs.map Lib.itoa) [32]
/-- What lies at a place: its kind, and its numbers. -/
def spotF (b c d n : Int) : Int × Int × Int :=
  if n < 5 then (0, n, 0) else if n < 5 + b then (1, n - 5, 0) else if n < 5 + b + d then (2, n - (5 + b), 0)
  else if n < 5 + b + d + b * c then (3, (n - (5 + b + d)) / c, (n - (5 + b + d)) % c) else (4 + (n - (5 + b + d + b * c)) % 3, (n - (5 + b + d + b * c)) / 3, 0)
def nameOf (s : Int × Int × Int) : List UInt8 := if s.1 = 0 then onceN s.2.1 else if s.1 = 3 then nm (kindN 3) [s.2.1, s.2.2] else nm (kindN s.1) [s.2.1]

/-- The tables of names, as their texts lay them. -/
def OnceAt (w : World) : Prop := w.cell? ⟨1, 0, none⟩ = some (.string ⟨#[102, 114, 101, 101]⟩) ∧ w.cell? ⟨1, 1, none⟩ = some (.string ⟨#[103, 97, 116, 101]⟩) ∧ w.cell? ⟨1, 2, none⟩ = some (.string ⟨#[100, 105, 114, 116, 121]⟩) ∧
  w.cell? ⟨1, 3, none⟩ = some (.string ⟨#[110, 101, 120, 116]⟩) ∧ w.cell? ⟨1, 4, none⟩ = some (.string ⟨#[115, 101, 114, 118, 101]⟩)
def PartAt (w : World) : Prop := w.cell? ⟨2, 0, none⟩ = some (.string ⟨#[99, 97, 114]⟩) ∧ w.cell? ⟨2, 1, none⟩ = some (.string ⟨#[99, 100, 114]⟩) ∧ w.cell? ⟨2, 2, none⟩ = some (.string ⟨#[99, 111, 108, 111, 117, 114]⟩)
/-- What the listed variables hold. -/
structure Laid4 (w : World) : Prop where
  spans : SpansAt w
  pow : Lib.TabIs Tryd.prog w "internal/strconv.uint64pow10" .u64 Lib.pow10Tab
  once : OnceAt w
  part : PartAt w
theorem Laid4.below {w w' : World} (h : Laid4 w) (hb : Below w.heap.size w w') : Laid4 w' := by
  obtain ⟨h1, h2, ⟨a0, a1, a2, a3, a4⟩, ⟨b0, b1, b2⟩⟩ := h
  have k : ∀ B j v, w.cell? ⟨B, j, none⟩ = some v → w'.cell? ⟨B, j, none⟩ = some v := fun B j v e => (hb.cell (p := ⟨B, j, none⟩) (lt_of_cell e)).trans e
  exact ⟨h1.below hb, Lib.tabBelow_of_tabIs h2 w' hb, ⟨k _ _ _ a0, k _ _ _ a1, k _ _ _ a2, k _ _ _ a3, k _ _ _ a4⟩, ⟨k _ _ _ b0, k _ _ _ b1, k _ _ _ b2⟩⟩
theorem itoa_short4 (n : Int) (h0 : 0 ≤ n) (h1 : n ≤ 4096) : (Lib.itoa n).length ≤ 20 := by
  unfold Lib.itoa
  rw [if_neg (by omega), Lib.decDigits_length]
  exact Lib.nDigits_le20 _ (by omega)
theorem ownsRow_below4 {w w' : World} {base : Nat} {e : TypeId} {size : Nat} {v : Value} {n : Nat} {xs : List Value} (h : w.ownsRow base e size v n xs) (hb : Below w.heap.size w w') : w'.ownsRow base e size v n xs :=
  h.kept (row := none) ⟨hb.os, hb.tape, hb.output, hb.size, fun k hk _ => hb.block k hk⟩ (by cases h' : v.ownBlock with | none => exact .inl rfl | some x => exact .inr (by simp))
open Go.Sort Go.Lib in
theorem grow_below4 (w : World) (k : Nat) (os : Array Obj) : Below w.heap.size w (grow (w.drewN k) os) := below_grow _ _ (Nat.le_refl _) _ _
theorem itoa4_c (n : Int) (h0 : 0 ≤ n) (h1 : n ≤ 4096) (w : World) (hL : Laid4 w) :
    Calls Tryd.prog 39 #[.int .i64 n] w fun e w' => e = .returned (.string ⟨(Lib.itoa n).toArray⟩) ∧ Below w.heap.size w w' :=
  (Tryd.strconv_Itoa n (by omega) (by omega) w hL.pow).mono fun e w' ⟨he, k, os, hw⟩ => ⟨he, hw ▸ grow_below4 w k os⟩
theorem infoString4 : (Tryd.prog.info? 9).map (fun i => (i.zero, i.size, i.bytes)) = some (some (.string ByteArray.empty), 1, 16) := by kernel_rfl
/-- How far name's loop is. -/
def strV (l : List UInt8) : Value := .string ⟨l.toArray⟩
def Named (w wr : World) (v : Value) (what : List UInt8) (zs : List Int) (k : Nat) : Prop :=
  wr.ownsRow w.heap.size 9 1 v (k + 1) ((what :: (zs.take k).map Lib.itoa).map strV) ∧ Below w.heap.size w wr
theorem take_next (zs : List Int) (k : Nat) (h : k < zs.length) : zs.take (k + 1) = zs.take k ++ [zs.getD k 0] := by
  rw [List.take_succ_eq_append_getElem h]; simp [List.getD, List.getElem?_eq_getElem h]
theorem nm_short (what : List UInt8) (hw : what.length ≤ 20) (zs : List Int) (hl : zs.length ≤ 2) (hz : ∀ x ∈ zs, 0 ≤ x ∧ x ≤ 4096) : (nm what zs).length ≤ 100 := by
  match zs, hl, hz with
  | [], _, _ => unfold nm; rw [Lib.join_length]; simp [Lib.lens]; omega
  | [x], _, hz =>
    have h1 := itoa_short4 x (hz x (by simp)).1 (hz x (by simp)).2
    unfold nm; rw [Lib.join_length]; simp [Lib.lens]; omega
  | [x, y], _, hz =>
    have h1 := itoa_short4 x (hz x (by simp)).1 (hz x (by simp)).2
    have h2 := itoa_short4 y (hz y (by simp)).1 (hz y (by simp)).2
    unfold nm; rw [Lib.join_length]; simp [Lib.lens]; omega
set_option maxHeartbeats 3200000 in
theorem name_c (what : List UInt8) (hw : what.length ≤ 20) (zs : List Int) (hl : zs.length ≤ 2) (hz : ∀ x ∈ zs, 0 ≤ x ∧ x ≤ 4096) (B cap : Nat) (w : World) (hL : Laid4 w) (hr : ∀ j, j < zs.length → w.cell? ⟨B, j, none⟩ = some (.int .i64 (zs.getD j 0))) :
    Calls Tryd.prog 27 #[.string ⟨what.toArray⟩, .slice (some ⟨B, 0, none⟩) zs.length cap] w fun e w' => e = .returned (.string ⟨(nm what zs).toArray⟩) ∧ Below w.heap.size w w' := by
  obtain ⟨i9, hi9, hz0, hz1, hz2⟩ := info_parts infoString4
  have HZ := Lib.hid hz; have HR := Lib.hid hr; have HL := Lib.hid hL; have HW := Lib.hid hw
  have H0 : Hid (Named w (w.alloc (.cells #[.string ⟨what.toArray⟩] 9)) (.slice (some ⟨w.heap.size, 0, none⟩) 1 1) what zs 0) :=
    Lib.hid ⟨by simpa [strV] using World.ownsRow_lit (base := w.heap.size) (e := 9) (size := 1) w #[.string ⟨what.toArray⟩] 1 (Nat.le_refl _) (by unfold maxLen; omega) (by simp), below_new _ _⟩
  clear hz hr hL hw
  go_enter Tryd.func27, Tryd.ntmps27
  go_wp2_with fail
  go_loopw [5, 12] (fun v vi wr => ∃ k : Nat, vi = .int .i64 k ∧ k ≤ zs.length ∧ Hid (Named w wr v what zs k)) (fun _ vi _ => zs.length - (intOf vi).toNat)
  case atStart => exact ⟨0, rfl, by omega, H0⟩
  case round =>
    clear H0
    obtain ⟨k, rfl, hk, HN⟩ := hrel
    by_cases hlt : k < zs.length
    · obtain ⟨hO, hB⟩ := HN.out
      have hc := (hB.cell (p := ⟨B, k, none⟩) (lt_of_cell (HR.out k hlt))).trans (HR.out k hlt)
      have hx := HZ.out (zs.getD k 0) (by simp [List.getD, List.getElem?_eq_getElem hlt])
      have HT := Lib.hid (take_next zs k hlt)
      generalize zs.getD k 0 = x at hc hx HT
      have HI := Lib.hid (itoa4_c x hx.1 hx.2 wr (HL.out.below hB))
      have HO := Lib.hid hO; have HBr := Lib.hid hB
      have hm : w.heap.size ≤ wr.heap.size := hB.size
      clear HN hO hB hx
      go_wp2_with fail
      refine HI.out.mono ?_
      rintro e w1 ⟨rfl, hW⟩
      have hO := ownsRow_below4 HO.out hW
      have hm1 : wr.heap.size ≤ w1.heap.size := hW.size
      have HB1 := Lib.hid (below_on (belowOn HBr.out hW) (.cells #[.string ⟨(Lib.itoa x).toArray⟩] 9))
      clear hW HI HO HBr
      generalize hs : Lib.itoa x = s at *
      have HSx := Lib.hid hs
      clear hs
      go_wp2_with (at_builtin; refine wpList_append_lies _ (by rfl) _ _ _ (by rfl) w.heap.size 9 i9 _ 1 16 Tryd.underlying28 hi9 hz0 hz1 hz2 rfl (by omega) u5 (k + 1) _ (by rfl) (hO.alloc _) ⟨w1.heap.size, 0, none⟩ 1 1 [.string ⟨s.toArray⟩] (by rfl) (by rfl) (World.news_of_block (cs := #[.string ⟨s.toArray⟩]) (t := 9) (fr := (0, 0)) (heap_alloc_new w1 _)) (by simp [Value.oneCell']) (by omega) (by unfold maxLen; omega) (by omega) (by simp; omega) (w1.heap.size + 1) (by simp) ?_; intro gg cap' w2 hown1 hgrow hat hlt2)
      have HN : Hid (Named w w2 (.slice (some ⟨gg, 0, none⟩) (k + 1 + 1) cap') what zs (k + 1)) := Lib.hid ⟨by
        have e : (what :: (zs.take (k + 1)).map Lib.itoa).map strV = (what :: (zs.take k).map Lib.itoa).map strV ++ [.string ⟨s.toArray⟩] := by
          rw [HT.out, ← HSx.out]; simp [strV]
        rw [e]; exact hown1, HB1.out.grown hgrow (by simp; omega) (fun j e => (hO.lt j e).1)⟩
      clear hown1 hgrow hat hlt2 hO HB1 HT HSx
      go_roundw
      case rel => exact ⟨k + 1, by go_num, by omega, HN⟩
      case measure => simp [intOf]; omega
    · obtain rfl : k = zs.length := by omega
      obtain ⟨hO, hB⟩ := HN.out
      rw [List.take_length] at hO
      obtain ⟨g, cp, rfl, hg, hgl⟩ := hO.form (by omega)
      have hcap : zs.length + 1 ≤ cp := by
        rcases hO.2 with ⟨h, _⟩ | ⟨g', cap', cur, h, _, _, h', _⟩
        · cases h
        · cases h; exact h'
      have hcells : ∀ (j : Nat) x, ((what :: zs.map Lib.itoa).map fun l => (⟨l.toArray⟩ : ByteArray))[j]? = some x → wr.cell? ⟨g, 0 + j, none⟩ = some (.string x) := fun j x h => by
        have := hO.cells rfl j (.string x) (by
          rw [List.getElem?_map] at h ⊢
          cases h' : (what :: zs.map Lib.itoa)[j]? with
          | none => rw [h'] at h; cases h
          | some y => rw [h'] at h; cases h; rfl)
        rw [Addr.add_lit] at this
        exact this
      have hJ := Tryd.strings_Join g 0 cp ((what :: zs.map Lib.itoa).map fun l => (⟨l.toArray⟩ : ByteArray)) ⟨#[32]⟩ wr hcells hgl (by simp; omega) (by simpa using hcap) (by
        rw [List.map_map, show ((fun x : ByteArray => x.data.toList) ∘ fun l : List UInt8 => (⟨l.toArray⟩ : ByteArray)) = id from funext fun l => by simp, List.map_id]
        exact Nat.le_trans (nm_short what HW.out zs hl HZ.out) (by decide))
      rw [List.map_map, show ((fun x : ByteArray => x.data.toList) ∘ fun l : List UInt8 => (⟨l.toArray⟩ : ByteArray)) = id from funext fun l => by simp, List.map_id] at hJ
      rw [show ((what :: zs.map Lib.itoa).map fun l => (⟨l.toArray⟩ : ByteArray)).length = zs.length + 1 by simp] at hJ
      have HJ : Hid (Calls Tryd.prog 19 #[.slice (some ⟨g, 0, none⟩) (zs.length + 1) cp, .string ⟨#[32]⟩] wr fun e w' => e = .returned (.string ⟨(nm what zs).toArray⟩) ∧ Below wr.heap.size wr w') := Lib.hid hJ
      have HBr := Lib.hid hB
      clear HN hO hB hcells hJ hcap
      go_wp2_with fail
      refine HJ.out.mono ?_
      rintro e w' ⟨rfl, hW⟩
      go_wp2_with fail
      go_ret
      exact ⟨rfl, belowOn HBr.out hW⟩
end Go.Proofs.YtdhejdehlomppaaDoor
