/- The words at first, by package place's First and by the document's answer, for every configuration; the document's Same of two rows of the same words. -/
import Derived.Test.YthdcapkchjamoaaGreatDoorM5
import Derived.Test.YthdcapkchjamoaaGreatDoorArenaRows
import Derived.Test.YthdcapkchjamoaaGreatDoorWordBase
import Derived.Deep.OwnRows
import Derived.OneCell
import Derived.RegionTactic
import Derived.Deep.RegionHeld3
import Derived.Deep.DrawnRows
namespace Go.Proofs.YthdcapkchjamoaaGreatDoor
open Go Go.RowKit
set_option maxRecDepth 100000
attribute [local go_sem ↓] Go.wp_at_zero Go.wp_at_succ

theorem sizeP_right {a b c d : Int} (hr : Right a b c d) : sizeP a b c d = 5 + b + d + b * c + 3 * a := by unfold sizeP; rw [if_pos hr]; omega
/-- What lies at place m, in a row of spots. -/
theorem spot_cells {w : World} {B g cap n : Nat} {b c d : Int} (h : w.ownsRow B 117 3 (.slice (some ⟨g, 0, none⟩) n cap) n (flat b c d n)) (m : Nat) (hm : m < n) :
    w.cell? ⟨g, m * 3, none⟩ = some (.int .i64 (spotF b c d m).1) ∧ w.cell? ⟨g, m * 3 + 1, none⟩ = some (.int .i64 (spotF b c d m).2.1) ∧ w.cell? ⟨g, m * 3 + 2, none⟩ = some (.int .i64 (spotF b c d m).2.2) := by
  refine ⟨?_, ?_, ?_⟩
  · rw [h.cellAt (m * 3) (by omega), show m * 3 = m * 3 + 0 by omega, flat_at b c d n m 0 hm (by omega)]; rfl
  · rw [h.cellAt (m * 3 + 1) (by omega), flat_at b c d n m 1 hm (by omega)]; rfl
  · rw [h.cellAt (m * 3 + 2) (by omega), flat_at b c d n m 2 hm (by omega)]; rfl
/-- The word at a place, at first. -/
def fstV (a b c d : Int) (j : Nat) : Int :=
  if (spotF b c d j).1 = 5 ∧ (spotF b c d j).2.1 + 1 < a then 2 * ((spotF b c d j).2.1 + 1) + 1 else if (spotF b c d j).1 = 0 ∧ (spotF b c d j).2.1 = 0 then 1 else 0
/-- How far the program's First is: the first k cells lead to their next ones. -/
def rowF (a b c d : Int) (k j : Nat) : Int :=
  if (spotF b c d j).1 = 5 ∧ (spotF b c d j).2.1 < k ∧ (spotF b c d j).2.1 + 1 < a then 2 * ((spotF b c d j).2.1 + 1) + 1 else if (spotF b c d j).1 = 0 ∧ (spotF b c d j).2.1 = 0 then 1 else 0
theorem spot_zero (b c d : Int) : spotF b c d ((0 : Nat) : Int) = (0, 0, 0) := spot_once (by omega)
theorem spot_five {a b c d : Int} (hr : Right a b c d) (j : Nat) (h : (spotF b c d j).1 = 5) : (j : Int) = 5 + b + d + b * c + 3 * (spotF b c d j).2.1 + 1 := by
  have hp := hr.prod
  unfold Right at hr
  unfold spotF at *
  split at h
  · simp at h
  · split at h
    · simp at h
    · split at h
      · simp at h
      · split at h
        · simp at h
        · rw [if_neg (by assumption), if_neg (by assumption), if_neg (by assumption), if_neg (by assumption)]
          simp only at h ⊢
          omega
theorem spot_nought {a b c d : Int} (hr : Right a b c d) (j : Nat) (h : (spotF b c d j).1 = 0) : (spotF b c d j).2.1 = j := by
  have hp := hr.prod
  unfold Right at hr
  unfold spotF at *
  split at h
  · rw [if_pos (by assumption)]
  · split at h
    · simp at h
    · split at h
      · simp at h
      · split at h
        · simp at h
        · simp only at h; omega
theorem rowF_zero {a b c d : Int} (hr : Right a b c d) (j : Nat) : rowF a b c d 0 j = if j = 0 then 1 else 0 := by
  unfold rowF
  by_cases h : j = 0
  · subst h; rw [spot_zero, if_neg (by simp), if_pos ⟨rfl, rfl⟩, if_pos rfl]
  · rw [if_neg h, if_neg, if_neg]
    · rintro ⟨h1, h2⟩; have := spot_nought hr j h1; omega
    · rintro ⟨h1, h2, _⟩
      have h3 := spot_five hr j h1
      have : 0 ≤ (spotF b c d j).2.1 := by
        unfold spotF at *
        split at h1
        · simp at h1
        · split at h1
          · simp at h1
          · split at h1
            · simp at h1
            · split at h1
              · simp at h1
              · rw [if_neg (by assumption), if_neg (by assumption), if_neg (by assumption), if_neg (by assumption)]; simp only; omega
      omega
theorem rowF_next {a b c d : Int} (hr : Right a b c d) (k p j : Nat) (hk : (k : Int) + 1 < a) (hp : (p : Int) = 5 + b + d + b * c + 3 * k + 1) : (if j = p then 2 * ((k : Int) + 1) + 1 else rowF a b c d k j) = rowF a b c d (k + 1) j := by
  have hpd := hr.prod
  by_cases h : j = p
  · subst h
    have he : spotF b c d j = (4 + 1, (k : Int), 0) := spot_cell hr (by omega) (by omega) (by omega) hp
    rw [if_pos rfl]; unfold rowF; rw [he, if_pos ⟨rfl, by simp; omega, hk⟩]
  · rw [if_neg h]; unfold rowF
    by_cases h5 : (spotF b c d j).1 = 5
    · have h3 := spot_five hr j h5
      have hne : ¬ (spotF b c d j).2.1 = k := fun e => h (by rw [e] at h3; omega)
      by_cases h6 : (spotF b c d j).2.1 < k ∧ (spotF b c d j).2.1 + 1 < a
      · rw [if_pos ⟨h5, h6⟩, if_pos ⟨h5, by omega, h6.2⟩]
      · have e1 : ¬ ((spotF b c d j).1 = 5 ∧ (spotF b c d j).2.1 < (k : Nat) ∧ (spotF b c d j).2.1 + 1 < a) := fun h => h6 h.2
        have e2 : ¬ ((spotF b c d j).1 = 5 ∧ (spotF b c d j).2.1 < ((k + 1 : Nat) : Int) ∧ (spotF b c d j).2.1 + 1 < a) := fun h => h6 ⟨by have := h.2.1; omega, h.2.2⟩
        rw [if_neg e1, if_neg e2]
    · have e1 : ¬ ((spotF b c d j).1 = 5 ∧ (spotF b c d j).2.1 < (k : Nat) ∧ (spotF b c d j).2.1 + 1 < a) := fun h => h5 h.1
      have e2 : ¬ ((spotF b c d j).1 = 5 ∧ (spotF b c d j).2.1 < ((k + 1 : Nat) : Int) ∧ (spotF b c d j).2.1 + 1 < a) := fun h => h5 h.1
      rw [if_neg e1, if_neg e2]
theorem rowF_last (a b c d : Int) (k j : Nat) (hk : a ≤ (k : Int) + 1) : rowF a b c d k j = fstV a b c d j := by
  unfold rowF fstV
  by_cases h6 : (spotF b c d j).1 = 5 ∧ (spotF b c d j).2.1 + 1 < a
  · rw [if_pos ⟨h6.1, by omega, h6.2⟩, if_pos h6]
  · rw [if_neg (fun h => h6 ⟨h.1, h.2.2⟩), if_neg h6]
theorem rowIs_below {w w' : World} {g : Nat} {t : TypeId} {n : Nat} {f : Nat → Value} (h : w.rowIs g t n f) (hb : Below w.heap.size w w') : w'.rowIs g t n f := h.of_block (hb.block _ h.lt)
theorem BoxAt.setOther {w : World} {B : Nat} {a b c d : Int} (h : BoxAt w B a b c d) {p : Addr} (hp : p.block ≠ B) (v : Value) : BoxAt (w.setCell p v) B a b c d := by
  have k : ∀ j, (w.setCell p v).cell? ⟨B, j, none⟩ = w.cell? ⟨B, j, none⟩ := fun j => World.cell?_setCell_other w p _ v (fun e => hp (by rw [e]))
  exact ⟨(k 0).trans h.1, (k 1).trans h.2.1, (k 2).trans h.2.2.1, (k 3).trans h.2.2.2⟩
/-- What stays while First goes on. -/
structure FBox (w wr : World) (M g n : Nat) (a b c d : Int) (f : Nat → Int) : Prop where
  old : Below w.heap.size w wr
  map : BoxAt wr M a b c d
  row : wr.rowIs g 26 n (fun j => .int .u64 (f j))
theorem FBox.below {w wr wq : World} {M g n : Nat} {a b c d : Int} {f : Nat → Int} (h : FBox w wr M g n a b c d f) (hb : Below wr.heap.size wr wq) : FBox w wq M g n a b c d f := ⟨belowOn h.old hb, h.map.below hb, rowIs_below h.row hb⟩
theorem FBox.set {w wr : World} {M g n : Nat} {a b c d : Int} {f f' : Nat → Int} (h : FBox w wr M g n a b c d f) (hg : w.heap.size ≤ g) (hM : g ≠ M) (p : Nat) (x : Int) (e : ∀ j, (if j = p then x else f j) = f' j) : FBox w (wr.setCell ⟨g, p, none⟩ (.int .u64 x)) M g n a b c d f' :=
  ⟨h.old.setCell hg _, h.map.setOther hM _, (h.row.set p _).congr (fun j _ => by
    by_cases hj : j = p
    · rw [if_pos hj]; have := e j; rw [if_pos hj] at this; rw [← this]
    · rw [if_neg hj]; have := e j; rw [if_neg hj] at this; rw [← this])⟩
theorem FBox.as {w wr : World} {M g n : Nat} {a b c d : Int} {f f' : Nat → Int} (h : FBox w wr M g n a b c d f) (e : ∀ j, j < n → f j = f' j) : FBox w wr M g n a b c d f' := ⟨h.old, h.map, h.row.congr (fun j hj => by rw [e j hj])⟩
/-- What First answers. -/
def FirstPost (w : World) (a b c d : Int) (e : Ending) (w' : World) : Prop :=
  ∃ (g n : Nat), e = .returned (.slice (some ⟨g, 0, none⟩) n n) ∧ (n : Int) = 5 + b + d + b * c + 3 * a ∧ w'.rowIs g 26 n (fun j => .int .u64 (fstV a b c d j)) ∧ Below w.heap.size w w'
/-- .. and the row lies behind what was there. -/
def FirstNew (w : World) (a b c d : Int) (e : Ending) (w' : World) : Prop :=
  ∃ (g n : Nat), e = .returned (.slice (some ⟨g, 0, none⟩) n n) ∧ (n : Int) = 5 + b + d + b * c + 3 * a ∧ w'.rowIs g 26 n (fun j => .int .u64 (fstV a b c d j)) ∧ Below w.heap.size w w' ∧ w.heap.size ≤ g
theorem cellI_c (x : Int) (h0 : 0 ≤ x) (h1 : x < 4096) (w : World) :
    Calls Tryz.prog 60 #[.int .i64 x] w fun e w' => e = .returned (.int .u64 (2 * x + 1)) ∧ w = w' := by
  obtain ⟨k, rfl⟩ : ∃ k : Nat, x = k := ⟨x.toNat, by omega⟩
  have h := cell_pos k (by omega) w
  rwa [show ((2 * k + 1 : Nat) : Int) = 2 * (k : Int) + 1 by omega] at h
theorem refCellI_c (x : Int) (h0 : 0 ≤ x) (h1 : x < 4096) (w : World) :
    Calls Tryz.prog 58 #[.int .i64 x] w fun e w' => e = .returned (.int .u64 (2 * x + 1)) ∧ w = w' := by
  obtain ⟨k, rfl⟩ : ∃ k : Nat, x = k := ⟨x.toNat, by omega⟩
  have h := refCell_pos k (by omega) w
  rwa [show ((2 * k + 1 : Nat) : Int) = 2 * (k : Int) + 1 by omega] at h
theorem first_wrong (a b c d : Int) (hr : ¬ Right a b c d) (w : World) (hS : SpansAt w) :
    Calls Tryz.prog 34 #[.agg #[.int .i64 a, .int .i64 b, .int .i64 c, .int .i64 d]] w fun e w' => e = .returned (.slice none 0 0) ∧ Below w.heap.size w w' := by
  have hb := below_new w (.cells #[.int .i64 a, .int .i64 b, .int .i64 c, .int .i64 d] 23)
  have HX := Lib.hid (BoxAt.new w a b c d 23)
  have HN := Lib.hid (New_wrong a b c d hr _ (hS.below hb))
  have HB := Lib.hid hb
  clear hr hS hb
  obtain ⟨x0, x1, x2, x3⟩ := HX.out
  go_enter Tryz.func34, Tryz.ntmps34
  go_wp2_with fail
  refine HN.out.mono ?_
  rintro e W ⟨rfl, hW⟩
  have HB1 := Lib.hid (below_on (belowOn HB.out hW) (.cells #[.int .i64 0, .int .i64 0, .int .i64 0, .int .i64 0] 48))
  clear hW
  go_wp2_with fail
  go_ret
  exact ⟨rfl, HB1.out⟩
set_option maxHeartbeats 6400000 in
theorem first_right (a b c d : Int) (hr : Right a b c d) (w : World) (hS : SpansAt w) :
    Calls Tryz.prog 34 #[.agg #[.int .i64 a, .int .i64 b, .int .i64 c, .int .i64 d]] w (FirstPost w a b c d) := by
  have hb := below_new w (.cells #[.int .i64 a, .int .i64 b, .int .i64 c, .int .i64 d] 23)
  have HX := Lib.hid (BoxAt.new w a b c d 23)
  have HN := Lib.hid (New_right a b c d hr _ (hS.below hb))
  have HB := Lib.hid hb
  have HR := Lib.hid hr; have HS := Lib.hid hS
  have hp1 : 1 ≤ b * c := hr.prod.1
  have hp2 : b * c ≤ 4032 := hr.prod.2
  have hz := Size_c a b c d
  rw [sizeP_right hr] at hz
  obtain ⟨ha1, ha2, hb1, hb2, hc1, hc2, hd1, hd2⟩ := hr
  obtain ⟨n, hn⟩ : ∃ n : Nat, 5 + b + d + b * c + 3 * a = (n : Int) := ⟨(5 + b + d + b * c + 3 * a).toNat, by omega⟩
  rw [hn] at hz
  have HZ := Lib.hid hz
  have hn20 : n ≤ 20000 := by omega
  have hn0 : 0 < n := by omega
  have HNn := Lib.hid hn
  have hmk := make_words n hn20
  have HC0 := Lib.hid (cellI_c 0 (by omega) (by omega))
  clear hS hb hz hn
  obtain ⟨x0, x1, x2, x3⟩ := HX.out
  go_enter Tryz.func34, Tryz.ntmps34
  go_wp2_with fail
  refine HN.out.mono ?_
  rintro e W ⟨rfl, hW⟩
  have HB1 := Lib.hid (below_on (belowOn HB.out hW) (.cells #[.int .i64 a, .int .i64 b, .int .i64 c, .int .i64 d] 48))
  have HM1 := Lib.hid (BoxAt.new W a b c d 48)
  obtain ⟨m0, m1, m2, m3⟩ := HM1.out
  clear hW x0 x1 x2 x3 HN
  go_wp2_with fail
  refine (HZ.out _ (HS.out.below HB1.out)).mono ?_
  rintro e W1 ⟨rfl, hW⟩
  have HF1 : Hid (FBox w (W1.alloc (.cells (madeCells #[.int .u64 0] n) 26)) W.heap.size W1.heap.size n a b c d (fun _ => 0)) :=
    Lib.hid ⟨below_on (belowOn HB1.out hW) _, (HM1.out.below hW).below (below_new _ _), World.rowIs_made W1 (.int .u64 0) n 26⟩
  have hlt1 : W.heap.size < W1.heap.size := by have := hW.size; simp at this; omega
  have hge : w.heap.size ≤ W1.heap.size := by have := (belowOn HB1.out hW).size; omega
  have HK := Lib.hid (HM1.out.below hW)
  clear hW m0 m1 m2 m3 HM1 HB1 HZ
  go_wp2_with fail
  refine (HC0.out _).mono ?_
  rintro e W2 ⟨rfl, rfl⟩
  have hc := HF1.out.row.cell hn0
  have hf := HF1.out.row.frozen 0
  have HF2 : Hid (FBox w ((W1.alloc (.cells (madeCells #[.int .u64 0] n) 26)).setCell ⟨W1.heap.size, 0, none⟩ (.int .u64 1)) W.heap.size W1.heap.size n a b c d (rowF a b c d 0)) :=
    Lib.hid (HF1.out.set hge (by omega) 0 1 (fun j => by rw [rowF_zero HR.out j]))
  rw [World.setCell_alloc_new] at HF2
  obtain ⟨m0, m1, m2, m3⟩ := HK.out
  have hne1 : W.heap.size ≠ W1.heap.size := by omega
  go_wp2_with fail
  clear m0 m1 m2 m3 HK hc hf hmk
  go_loopw [24] (fun vi wr => ∃ k : Nat, vi = .int .i64 k ∧ (k : Int) ≤ a - 1 ∧ Hid (FBox w wr W.heap.size W1.heap.size n a b c d (rowF a b c d k))) (fun vi _ => (a - 1).toNat - (intOf vi).toNat)
  case atStart => exact ⟨0, rfl, by omega, HF2⟩
  case round =>
    clear HF1 HF2
    obtain ⟨k, rfl, hk, HF⟩ := hrel
    by_cases hlt : (k : Int) < a - 1
    · obtain ⟨p, hp⟩ : ∃ p : Nat, 5 + b + d + b * c + 3 * (k : Int) + 1 = (p : Int) := ⟨(5 + b + d + b * c + 3 * (k : Int) + 1).toNat, by omega⟩
      have hc1 := Cdr_c a b c d k
      rw [partP_in HR.out 1 k (by omega) (by omega), hp] at hc1
      have HC := Lib.hid hc1
      have HV := Lib.hid (cellI_c ((k : Int) + 1) (by omega) (by omega))
      have hpn : p < n := by have := HNn.out; omega
      have HP := Lib.hid hp.symm
      obtain ⟨m0, m1, m2, m3⟩ := HF.out.map
      clear hc1 hp
      go_wp2_with fail
      refine (HC.out _ (HS.out.below HF.out.old)).mono ?_
      rintro e V ⟨rfl, hV⟩
      have HG := Lib.hid (HF.out.below hV)
      clear hV HC HF m0 m1 m2 m3
      go_wp2_with fail
      refine (HV.out _).mono ?_
      rintro e V' ⟨rfl, rfl⟩
      have hc := HG.out.row.cell hpn
      have hf := HG.out.row.frozen p
      have HG2 : Hid (FBox w (V.setCell ⟨W1.heap.size, p, none⟩ (.int .u64 (2 * ((k : Int) + 1) + 1))) W.heap.size W1.heap.size n a b c d (rowF a b c d (k + 1))) := Lib.hid (HG.out.set hge (by omega) p _ (fun j => rowF_next HR.out k p j (by omega) HP.out))
      go_wp2_with fail
      clear hc hf HG HP
      go_roundw
      case rel => exact ⟨k + 1, by go_num, by omega, HG2⟩
      case measure => simp [intOf]; omega
    · go_wp2_with fail
      go_ret
      exact ⟨_, n, rfl, by have := HNn.out; omega, (HF.out.as (fun j _ => rowF_last a b c d k j (by omega))).row, HF.out.old⟩
theorem spot_five_pos {a b c d : Int} (hr : Right a b c d) (j : Nat) (h : (spotF b c d j).1 = 5) : 0 ≤ (spotF b c d j).2.1 := by
  have hp := hr.prod
  unfold Right at hr
  unfold spotF at *
  split at h
  · simp at h
  · split at h
    · simp at h
    · split at h
      · simp at h
      · split at h
        · simp at h
        · rw [if_neg (by assumption), if_neg (by assumption), if_neg (by assumption), if_neg (by assumption)]; simp only; omega
/-- How far the document's First is. -/
def upF (a b c d : Int) (k j : Nat) : Int := if j < k then fstV a b c d j else 0
theorem upF_set (a b c d : Int) (k j : Nat) (x : Int) (h : fstV a b c d k = x) : (if j = k then x else upF a b c d k j) = upF a b c d (k + 1) j := by
  unfold upF
  by_cases hj : j = k
  · subst hj; rw [if_pos rfl, if_pos (by omega), h]
  · rw [if_neg hj]
    by_cases h2 : j < k
    · rw [if_pos h2, if_pos (by omega)]
    · rw [if_neg h2, if_neg (by omega)]
theorem upF_same (a b c d : Int) (k j : Nat) (h : fstV a b c d k = 0) : upF a b c d k j = upF a b c d (k + 1) j := by
  rw [← upF_set a b c d k j 0 h]
  by_cases hj : j = k
  · subst hj; rw [if_pos rfl]; unfold upF; rw [if_neg (by omega)]
  · rw [if_neg hj]
structure RFst (w wr : World) (g1 cap n G B : Nat) (a b c d : Int) (k : Nat) : Prop where
  old : Below w.heap.size w wr
  box : BoxAt wr w.heap.size a b c d
  spots : wr.ownsRow B 117 3 (.slice (some ⟨g1, 0, none⟩) n cap) n (flat b c d n)
  row : wr.rowIs G 26 n (fun j => .int .u64 (upF a b c d k j))
section
variable {w wr : World} {g1 cap n G B : Nat} {a b c d : Int} {k : Nat}
theorem RFst.drew (h : RFst w wr g1 cap n G B a b c d k) : RFst w wr.drew g1 cap n G B a b c d k := ⟨h.old.drew, h.box, h.spots.drew, h.row.drew⟩
theorem RFst.set (h : RFst w wr g1 cap n G B a b c d k) (hg : w.heap.size < G) (h1 : g1 ≠ G) (x : Int) (e : fstV a b c d k = x) : RFst w (wr.setCell ⟨G, k, none⟩ (.int .u64 x)) g1 cap n G B a b c d (k + 1) :=
  ⟨h.old.setCell (by simp; omega) _, h.box.setOther (by simp; omega) _, ownsRow_setCell_other h.spots (by simpa [Value.ownBlock] using h1) _, (h.row.set k _).congr (fun j _ => by
    rw [← upF_set a b c d k j x e]
    by_cases hj : j = k
    · rw [if_pos hj, if_pos hj]
    · rw [if_neg hj, if_neg hj])⟩
theorem RFst.same (h : RFst w wr g1 cap n G B a b c d k) (e : fstV a b c d k = 0) : RFst w wr g1 cap n G B a b c d (k + 1) := ⟨h.old, h.box, h.spots, h.row.congr (fun j _ => by rw [upF_same a b c d k j e])⟩
end
theorem sameW_c (g1 g2 n : Nat) (f : Nat → Int) (w : World) (h1 : w.rowIs g1 26 n (fun j => .int .u64 (f j))) (h2 : w.rowIs g2 26 n (fun j => .int .u64 (f j))) (hn : n ≤ 20000) :
    Calls Tryz.prog 31 #[.slice (some ⟨g1, 0, none⟩) n n, .slice (some ⟨g2, 0, none⟩) n n] w fun e w' => e = .returned (.bool true) ∧ Below w.heap.size w w' := by
  have HR := Lib.hid h1; have HR2 := Lib.hid h2; clear h1 h2
  go_enter Tryz.func31, Tryz.ntmps31
  go_wp2
  go_loopw [5] (fun vi wr => ∃ k : Nat, vi = .int .i64 k ∧ k ≤ n ∧ Below w.heap.size w wr) (fun vi _ => n - (intOf vi).toNat)
  case atStart => exact ⟨0, rfl, Nat.zero_le _, Below.refl _ _⟩
  case round =>
    obtain ⟨k, rfl, hk, hb⟩ := hrel
    by_cases hlt : k < n
    · have hc := (rowIs_below HR.out hb).cell hlt
      have hc2 := (rowIs_below HR2.out hb).cell hlt
      generalize f k = x at hc hc2
      go_wp2
      go_region
      all_goals
        go_wp2
        go_roundw
        case rel => exact ⟨k + 1, by go_num, by omega, by first | exact hb.drew | exact hb.drew.drew | exact hb⟩
        case measure => simp [intOf]; omega
    · obtain rfl : k = n := by omega
      go_wp2
      go_ret
      exact ⟨rfl, hb⟩
theorem same0_c (g2 : Nat) (w : World) :
    Calls Tryz.prog 31 #[.slice none 0 0, .slice (some ⟨g2, 0, none⟩) 0 0] w fun e w' => e = .returned (.bool true) ∧ w = w' := by
  go_enter Tryz.func31, Tryz.ntmps31
  go_wp2
  go_loop [5] (fun vi => vi = .int .i64 0) (fun _ => 0)
  case atStart => rfl
  case round =>
    subst hrel
    go_wp2
    go_ret
    exact ⟨rfl, rfl⟩
end Go.Proofs.YthdcapkchjamoaaGreatDoor
