/- Package config's read and Parse, for every text of at most 200 bytes: the right configuration whose text it is, or the error's number 3 and no configuration. -/
import Derived.Test.YtiifeocfphojaaaDoorCfgPlain
namespace Go.Proofs.YtiifeocfphojaaaDoor
open Go Go.RowKit
set_option maxRecDepth 100000

/-- Four numbers lie in block B. -/
def Arr4 (w : World) (B : Nat) (t : TypeId) (x0 x1 x2 x3 : Int) : Prop := w.heap[B]? = some (.cells #[.int .i64 x0, .int .i64 x1, .int .i64 x2, .int .i64 x3] t (0, 0))
theorem Arr4.cells {w : World} {B : Nat} {t : TypeId} {x0 x1 x2 x3 : Int} (h : Arr4 w B t x0 x1 x2 x3) :
    w.cell? ⟨B, 0, none⟩ = some (.int .i64 x0) ∧ w.cell? ⟨B, 1, none⟩ = some (.int .i64 x1) ∧ w.cell? ⟨B, 2, none⟩ = some (.int .i64 x2) ∧ w.cell? ⟨B, 3, none⟩ = some (.int .i64 x3) ∧ (∀ j, w.frozen? ⟨B, j, none⟩ = false) := by
  unfold Arr4 at h
  refine ⟨by simp [World.cell?, h], by simp [World.cell?, h], by simp [World.cell?, h], by simp [World.cell?, h], fun j => by simp [World.frozen?, h]⟩
theorem Arr4.lt {w : World} {B : Nat} {t : TypeId} {x0 x1 x2 x3 : Int} (h : Arr4 w B t x0 x1 x2 x3) : B < w.heap.size := lt_of_cell h.cells.1
theorem Arr4.set {w : World} {B : Nat} {t : TypeId} {x0 x1 x2 x3 : Int} (h : Arr4 w B t x0 x1 x2 x3) (y : Int) :
    Arr4 (w.setCell ⟨B, 0, none⟩ (.int .i64 y)) B t y x1 x2 x3 ∧ Arr4 (w.setCell ⟨B, 1, none⟩ (.int .i64 y)) B t x0 y x2 x3 ∧ Arr4 (w.setCell ⟨B, 2, none⟩ (.int .i64 y)) B t x0 x1 y x3 ∧ Arr4 (w.setCell ⟨B, 3, none⟩ (.int .i64 y)) B t x0 x1 x2 y := by
  unfold Arr4 at *
  refine ⟨?_, ?_, ?_, ?_⟩ <;> simp [World.setCell, Array.getElem?_modify, h]
theorem Arr4.other {w w' : World} {B : Nat} {t : TypeId} {x0 x1 x2 x3 : Int} (h : Arr4 w B t x0 x1 x2 x3) (e : w'.heap[B]? = w.heap[B]?) : Arr4 w' B t x0 x1 x2 x3 := e.trans h

/-- What the words of a text of a right configuration spell. -/
theorem words_read {S : ByteArray} {a b c d : Int} {p0 p1 p2 p3 p4 p5 p6 p7 : ByteArray} (hp : Lib.splitB ⟨#[32]⟩ 0 (min 9 (S.size + 1) - 1) S = [p0, p1, p2, p3, p4, p5, p6, p7]) (h : IsText S.data.toList a b c d) :
    Lib.atoiAll p1.data.toList = .ok a ∧ Lib.atoiAll p3.data.toList = .ok b ∧ Lib.atoiAll p5.data.toList = .ok c ∧ Lib.atoiAll p7.data.toList = .ok d := by
  have hl := h.long
  have hz : S.data.toList.length = S.size := by simp
  have e := Lib.splitB_data ⟨#[32]⟩ 0 (min 9 (S.size + 1) - 1) S
  rw [hp, h.2, show (⟨#[32]⟩ : ByteArray).data.toList = [32] from rfl, text_split h.1 _ (by omega)] at e
  simp only [wordsL, List.map_cons, List.map_nil, List.cons.injEq, and_true] at e
  obtain ⟨_, e1, _, e3, _, e5, _, e7⟩ := e
  obtain ⟨⟨h1, h2, h3, h4, h5, h6, h7, h8⟩, _⟩ := h
  rw [e1, e3, e5, e7]
  exact ⟨atoi_itoa (by omega) (by omega), atoi_itoa (by omega) (by omega), atoi_itoa (by omega) (by omega), atoi_itoa (by omega) (by omega)⟩
theorem words_count {S : ByteArray} {a b c d : Int} (h : IsText S.data.toList a b c d) : (Lib.splitB ⟨#[32]⟩ 0 (min 9 (S.size + 1) - 1) S).length = 8 := by
  have hl := h.long
  have hz : S.data.toList.length = S.size := by simp
  have e := congrArg List.length (Lib.splitB_data ⟨#[32]⟩ 0 (min 9 (S.size + 1) - 1) S)
  rw [h.2, show (⟨#[32]⟩ : ByteArray).data.toList = [32] from rfl, text_split h.1 _ (by omega), List.length_map] at e
  exact e
theorem eight {α : Type} {l : List α} (h : l.length = 8) : ∃ a b c d e f g i, l = [a, b, c, d, e, f, g, i] := by
  match l, h with
  | [a, b, c, d, e, f, g, i], _ => exact ⟨a, b, c, d, e, f, g, i, rfl⟩
/-- Atoi, at whatever text: the number, or an error that is not nil. -/
theorem atoi_c (p : ByteArray) (hp : p.size ≤ 281474976710656) (w : World) (hL : Laid w) :
    Calls Tryd.prog 30 #[.string p] w fun e w' => Below w.heap.size w w' ∧ ((∃ v, Lib.atoiAll p.data.toList = .ok v ∧ e = .returned (.tuple #[.int .i64 v, .nilIface])) ∨ ((∀ v, Lib.atoiAll p.data.toList ≠ .ok v) ∧ ∃ x t q, e = .returned (.tuple #[.int .i64 x, .iface t q]))) := by
  match h : Lib.atoiAll p.data.toList with
  | .ok v =>
    refine (Tryd.strconv_Atoi_ok p (by omega) v h w).mono fun e w' ⟨he, hw⟩ => ⟨?_, .inl ⟨v, rfl, he⟩⟩
    rcases hw with rfl | ⟨t, rfl⟩
    · exact Below.refl _ _
    · exact Lib.bytesWorld_below w _ t
  | Lib.NumEnd.syntax =>
    obtain ⟨te, pe, hc⟩ := hL.bad
    exact (Tryd.strconv_Atoi_syntax p hp h _ w hc (.inr ⟨te, pe, rfl⟩)).mono fun e w' ⟨N, he, _, _, hb⟩ => ⟨hb, .inr ⟨by simp, _, _, _, he⟩⟩
  | .range =>
    obtain ⟨te, pe, hc⟩ := hL.far
    exact (Tryd.strconv_Atoi_range p hp h _ w hc (.inr ⟨te, pe, rfl⟩)).mono fun e w' ⟨N, he, _, _, hb⟩ => ⟨hb, .inr ⟨by simp, _, _, _, he⟩⟩
/-- What read answers. -/
def ReadPost (w : World) (S : ByteArray) (e : Ending) (w' : World) : Prop :=
  Below w.heap.size w w' ∧ ∃ (a b c d : Int) (ok : Bool), e = .returned (.tuple #[.agg #[.int .i64 a, .int .i64 b, .int .i64 c, .int .i64 d], .bool ok]) ∧ (ok = true → S.size ≠ 0) ∧ ∀ a' b' c' d', IsText S.data.toList a' b' c' d' → ok = true ∧ a = a' ∧ b = b' ∧ c = c' ∧ d = d'
theorem splitB_small (sep : ByteArray) : ∀ (k : Nat) (S : ByteArray), ∀ p ∈ Lib.splitB sep 0 k S, p.size ≤ S.size
  | 0, S, p, h => by simp [Lib.splitB] at h; subst h; exact Nat.le_refl _
  | k + 1, S, p, h => by
    unfold Lib.splitB at h
    split at h
    · simp at h; subst h; exact Nat.le_refl _
    · rcases List.mem_cons.1 h with rfl | h
      · rw [ByteArray.size_extract]; omega
      · have := splitB_small sep k _ p h
        rw [ByteArray.size_extract] at this
        omega
theorem Arr4.set4 {w : World} {B : Nat} {t : TypeId} {x0 x1 x2 x3 : Int} (h : Arr4 w B t x0 x1 x2 x3) (y0 y1 y2 y3 : Int) :
    Arr4 ((((w.setCell ⟨B, 0, none⟩ (.int .i64 y0)).setCell ⟨B, 1, none⟩ (.int .i64 y1)).setCell ⟨B, 2, none⟩ (.int .i64 y2)).setCell ⟨B, 3, none⟩ (.int .i64 y3)) B t y0 y1 y2 y3 :=
  ((((h.set y0).1.set y1).2.1.set y2).2.2.1.set y3).2.2.2
theorem below_set4 {w w' : World} {B : Nat} (h : Below B w w') (y0 y1 y2 y3 : Value) :
    Below B w ((((w'.setCell ⟨B, 0, none⟩ y0).setCell ⟨B, 1, none⟩ y1).setCell ⟨B, 2, none⟩ y2).setCell ⟨B, 3, none⟩ y3) :=
  (((h.setCell (p := ⟨B, 0, none⟩) (Nat.le_refl _) y0).setCell (p := ⟨B, 1, none⟩) (Nat.le_refl _) y1).setCell (p := ⟨B, 2, none⟩) (Nat.le_refl _) y2).setCell (p := ⟨B, 3, none⟩) (Nat.le_refl _) y3
/-- How far read's loop is. -/
structure Reading (w wr : World) (S : ByteArray) (ps : List ByteArray) (k : Nat) (x0 x1 x2 x3 : Int) : Prop where
  res : Arr4 wr w.heap.size 23 0 0 0 0
  words : ∀ j u, ps[j]? = some u → wr.cell? ⟨w.heap.size + 1, j, none⟩ = some (.string u)
  nums : Arr4 wr (w.heap.size + 2) 37 x0 x1 x2 x3
  old : Below w.heap.size w wr
  told : ∀ a b c d, IsText S.data.toList a b c d → (0 < k → x0 = a) ∧ (1 < k → x1 = b) ∧ (2 < k → x2 = c) ∧ (3 < k → x3 = d)
theorem Reading.on {w wr w1 : World} {S : ByteArray} {ps : List ByteArray} {k : Nat} {x0 x1 x2 x3 : Int} (h : Reading w wr S ps k x0 x1 x2 x3) (hb : Below wr.heap.size wr w1) : Reading w w1 S ps k x0 x1 x2 x3 :=
  ⟨h.res.other (hb.block _ h.res.lt), fun j u e => (hb.cell (p := ⟨_, j, none⟩) (lt_of_cell (h.words j u e))).trans (h.words j u e), h.nums.other (hb.block _ h.nums.lt), belowOn h.old hb, h.told⟩
theorem setCell_block {w : World} {B j C : Nat} {v : Value} (h : C ≠ B) : (w.setCell ⟨B, j, none⟩ v).heap[C]? = w.heap[C]? := Below.heap_setCell w ⟨B, j, none⟩ v C h
theorem Reading.set {w wr : World} {S : ByteArray} {ps : List ByteArray} {k j : Nat} {x0 x1 x2 x3 y0 y1 y2 y3 v : Int} (h : Reading w wr S ps k x0 x1 x2 x3)
    (hn : Arr4 (wr.setCell ⟨w.heap.size + 2, j, none⟩ (.int .i64 v)) (w.heap.size + 2) 37 y0 y1 y2 y3)
    (ht : ∀ a b c d, IsText S.data.toList a b c d → (0 < k + 1 → y0 = a) ∧ (1 < k + 1 → y1 = b) ∧ (2 < k + 1 → y2 = c) ∧ (3 < k + 1 → y3 = d)) :
    Reading w (wr.setCell ⟨w.heap.size + 2, j, none⟩ (.int .i64 v)) S ps (k + 1) y0 y1 y2 y3 :=
  ⟨h.res.other (setCell_block (by omega)), fun i u e => (World.cell?_of_block (setCell_block (by simp only; omega))).trans (h.words i u e), hn, h.old.setCell (p := ⟨w.heap.size + 2, j, none⟩) (by simp only; omega) _, ht⟩
theorem Reading.first (w : World) (S : ByteArray) (ps : List ByteArray) (N : Nat) :
    Reading w (((w.alloc (.cells #[.int .i64 0, .int .i64 0, .int .i64 0, .int .i64 0] 23)).alloc (.cells (Lib.cellsOf ps N) 9)).alloc (.cells #[.int .i64 0, .int .i64 0, .int .i64 0, .int .i64 0] 37)) S ps 0 0 0 0 0 := by
  have hx : ∀ (W : World) (o : Obj), (W.alloc o).heap[W.heap.size]? = some o := fun W o => by unfold World.alloc; exact Array.getElem?_push_size
  refine ⟨?_, fun j u e => ?_, ?_, below_on (below_on (below_new _ _) _) _, fun a b c d _ => by omega⟩
  · unfold Arr4
    rw [Below.heap_alloc _ _ _ (by simp; omega), Below.heap_alloc _ _ _ (by simp)]
    exact hx w _
  · have e1 : (Lib.cellsOf ps N)[j]? = some (.string u) := by
      unfold Lib.cellsOf
      obtain ⟨hj, _⟩ := List.getElem?_eq_some_iff.1 e
      rw [List.getElem?_toArray, List.getElem?_append_left (by simpa using hj), List.getElem?_map, e]; rfl
    refine (World.cell?_of_block (w := (w.alloc (.cells #[.int .i64 0, .int .i64 0, .int .i64 0, .int .i64 0] 23)).alloc (.cells (Lib.cellsOf ps N) 9)) (Below.heap_alloc _ _ _ (by simp))).trans ?_
    have := World.cell?_alloc_new (w.alloc (.cells #[.int .i64 0, .int .i64 0, .int .i64 0, .int .i64 0] 23)) (Lib.cellsOf ps N) 9 j
    rw [e1] at this
    simpa using this
  · unfold Arr4
    have := hx ((w.alloc (.cells #[.int .i64 0, .int .i64 0, .int .i64 0, .int .i64 0] 23)).alloc (.cells (Lib.cellsOf ps N) 9)) (.cells #[.int .i64 0, .int .i64 0, .int .i64 0, .int .i64 0] 37)
    simpa using this
set_option maxHeartbeats 6400000 in
theorem read_c (S : ByteArray) (hs : S.size ≤ 200) (w : World) (hL : Laid w) : Calls Tryd.prog 22 #[.string S] w (ReadPost w S) := by
  have hb := below_new w (.cells #[.int .i64 0, .int .i64 0, .int .i64 0, .int .i64 0] 23)
  obtain ⟨m, hm⟩ := (hL.below hb).len
  have hsp := Tryd.strings_SplitN S ⟨#[32]⟩ 9 m _ (by omega) hm (by decide) (by decide) (by decide)
  have HSP := Lib.hid hsp; have HL := Lib.hid hL; have HB := Lib.hid hb
  clear hsp hL hb hm
  go_enter Tryd.func22, Tryd.ntmps22
  go_wp2_with fail
  refine HSP.out.mono ?_
  rintro e W ⟨rfl, rfl⟩
  by_cases h8 : (Lib.splitB ⟨#[32]⟩ 0 (min 9 (S.size + 1) - 1) S).length = 8
  · obtain ⟨p0, p1, p2, p3, p4, p5, p6, p7, hp⟩ := eight h8
    have hle := Lib.splitB_length_le ⟨#[32]⟩ 0 (min 9 (S.size + 1) - 1) S
    have HP : Hid (∀ a b c d, IsText S.data.toList a b c d → Lib.atoiAll p1.data.toList = .ok a ∧ Lib.atoiAll p3.data.toList = .ok b ∧ Lib.atoiAll p5.data.toList = .ok c ∧ Lib.atoiAll p7.data.toList = .ok d) := Lib.hid (fun a b c d h => words_read hp h)
    have hz : S.size ≠ 0 := by omega
    have HZ : Hid (∀ p ∈ [p0, p1, p2, p3, p4, p5, p6, p7], p.size ≤ 281474976710656) := Lib.hid (fun p h => by have := splitB_small ⟨#[32]⟩ (min 9 (S.size + 1) - 1) S p (by rw [hp]; exact h); omega)
    rw [hp]
    have H0 := Lib.hid (Reading.first w S [p0, p1, p2, p3, p4, p5, p6, p7] (min 9 (S.size + 1)))
    clear h8 hp hle HSP
    go_wp2_with fail
    go_loopw [15] (fun vi wr => ∃ (k : Nat) (x0 x1 x2 x3 : Int), vi = .int .i64 k ∧ k ≤ 4 ∧ Hid (Reading w wr S [p0, p1, p2, p3, p4, p5, p6, p7] k x0 x1 x2 x3)) (fun vi _ => 4 - (intOf vi).toNat)
    case atStart => exact ⟨0, 0, 0, 0, 0, rfl, by omega, H0⟩
    case round =>
      obtain ⟨k, x0, x1, x2, x3, rfl, hk, HR⟩ := hrel
      obtain rfl | rfl | rfl | rfl | rfl : k = 0 ∨ k = 1 ∨ k = 2 ∨ k = 3 ∨ k = 4 := by omega
      · have hw := HR.out.words 1 p1 rfl
        go_wp2_with fail
        refine (atoi_c p1 (HZ.out p1 (by simp)) _ (HL.out.below HR.out.old)).mono ?_
        rintro e W1 ⟨hW, ⟨v, hv, rfl⟩ | ⟨hv, x, t, q, rfl⟩⟩
        · have HR1 := Lib.hid (HR.out.on hW)
          obtain ⟨c0, c1, c2, c3, cf⟩ := HR1.out.nums.cells
          have HN : Hid (Reading w (W1.setCell ⟨w.heap.size + 2, 0, none⟩ (.int .i64 v)) S [p0, p1, p2, p3, p4, p5, p6, p7] (0 + 1) v x1 x2 x3) := Lib.hid (HR1.out.set (HR1.out.nums.set v).1 (fun a b c d h => by
            have h1 := HR1.out.told a b c d h
            have h2 := (HP.out a b c d h).1
            rw [hv] at h2
            cases h2
            omega))
          clear HR HR1 hw hW hv
          go_wp2_with fail
          go_roundw
          case rel => exact ⟨1, v, x1, x2, x3, by go_num, by omega, HN⟩
          case measure => simp [intOf]
        · have HR1 := Lib.hid (HR.out.on hW)
          obtain ⟨r0, r1, r2, r3, rf⟩ := HR1.out.res.cells
          obtain ⟨s0, s1, s2, s3, _⟩ := (HR1.out.res.set4 0 0 0 0).cells
          have HN : Hid (∀ a b c d, ¬ IsText S.data.toList a b c d) := Lib.hid (fun a b c d h => hv a (HP.out a b c d h).1)
          have HO := Lib.hid (below_set4 HR1.out.old (.int .i64 0) (.int .i64 0) (.int .i64 0) (.int .i64 0))
          clear HR HR1 hw hW hv
          go_wp2_with fail
          refine bodyPost_ret (v := .tuple #[.agg #[.int .i64 0, .int .i64 0, .int .i64 0, .int .i64 0], .bool false]) (by simp [results, Tryd.f22, go_sem, s0, s1, s2, s3]) rfl ?_
          exact ⟨HO.out, 0, 0, 0, 0, false, rfl, by simp, fun a b c d h => absurd h (HN.out a b c d)⟩
      · have hw := HR.out.words 3 p3 rfl
        go_wp2_with fail
        refine (atoi_c p3 (HZ.out p3 (by simp)) _ (HL.out.below HR.out.old)).mono ?_
        rintro e W1 ⟨hW, ⟨v, hv, rfl⟩ | ⟨hv, x, t, q, rfl⟩⟩
        · have HR1 := Lib.hid (HR.out.on hW)
          obtain ⟨c0, c1, c2, c3, cf⟩ := HR1.out.nums.cells
          have HN : Hid (Reading w (W1.setCell ⟨w.heap.size + 2, 1, none⟩ (.int .i64 v)) S [p0, p1, p2, p3, p4, p5, p6, p7] (1 + 1) x0 v x2 x3) := Lib.hid (HR1.out.set (HR1.out.nums.set v).2.1 (fun a b c d h => by
            have h1 := HR1.out.told a b c d h
            have h2 := (HP.out a b c d h).2.1
            rw [hv] at h2
            cases h2
            omega))
          clear HR HR1 hw hW hv
          go_wp2_with fail
          go_roundw
          case rel => exact ⟨2, x0, v, x2, x3, by go_num, by omega, HN⟩
          case measure => simp [intOf]
        · have HR1 := Lib.hid (HR.out.on hW)
          obtain ⟨r0, r1, r2, r3, rf⟩ := HR1.out.res.cells
          obtain ⟨s0, s1, s2, s3, _⟩ := (HR1.out.res.set4 0 0 0 0).cells
          have HN : Hid (∀ a b c d, ¬ IsText S.data.toList a b c d) := Lib.hid (fun a b c d h => hv b (HP.out a b c d h).2.1)
          have HO := Lib.hid (below_set4 HR1.out.old (.int .i64 0) (.int .i64 0) (.int .i64 0) (.int .i64 0))
          clear HR HR1 hw hW hv
          go_wp2_with fail
          refine bodyPost_ret (v := .tuple #[.agg #[.int .i64 0, .int .i64 0, .int .i64 0, .int .i64 0], .bool false]) (by simp [results, Tryd.f22, go_sem, s0, s1, s2, s3]) rfl ?_
          exact ⟨HO.out, 0, 0, 0, 0, false, rfl, by simp, fun a b c d h => absurd h (HN.out a b c d)⟩
      · have hw := HR.out.words 5 p5 rfl
        go_wp2_with fail
        refine (atoi_c p5 (HZ.out p5 (by simp)) _ (HL.out.below HR.out.old)).mono ?_
        rintro e W1 ⟨hW, ⟨v, hv, rfl⟩ | ⟨hv, x, t, q, rfl⟩⟩
        · have HR1 := Lib.hid (HR.out.on hW)
          obtain ⟨c0, c1, c2, c3, cf⟩ := HR1.out.nums.cells
          have HN : Hid (Reading w (W1.setCell ⟨w.heap.size + 2, 2, none⟩ (.int .i64 v)) S [p0, p1, p2, p3, p4, p5, p6, p7] (2 + 1) x0 x1 v x3) := Lib.hid (HR1.out.set (HR1.out.nums.set v).2.2.1 (fun a b c d h => by
            have h1 := HR1.out.told a b c d h
            have h2 := (HP.out a b c d h).2.2.1
            rw [hv] at h2
            cases h2
            omega))
          clear HR HR1 hw hW hv
          go_wp2_with fail
          go_roundw
          case rel => exact ⟨3, x0, x1, v, x3, by go_num, by omega, HN⟩
          case measure => simp [intOf]
        · have HR1 := Lib.hid (HR.out.on hW)
          obtain ⟨r0, r1, r2, r3, rf⟩ := HR1.out.res.cells
          obtain ⟨s0, s1, s2, s3, _⟩ := (HR1.out.res.set4 0 0 0 0).cells
          have HN : Hid (∀ a b c d, ¬ IsText S.data.toList a b c d) := Lib.hid (fun a b c d h => hv c (HP.out a b c d h).2.2.1)
          have HO := Lib.hid (below_set4 HR1.out.old (.int .i64 0) (.int .i64 0) (.int .i64 0) (.int .i64 0))
          clear HR HR1 hw hW hv
          go_wp2_with fail
          refine bodyPost_ret (v := .tuple #[.agg #[.int .i64 0, .int .i64 0, .int .i64 0, .int .i64 0], .bool false]) (by simp [results, Tryd.f22, go_sem, s0, s1, s2, s3]) rfl ?_
          exact ⟨HO.out, 0, 0, 0, 0, false, rfl, by simp, fun a b c d h => absurd h (HN.out a b c d)⟩
      · have hw := HR.out.words 7 p7 rfl
        go_wp2_with fail
        refine (atoi_c p7 (HZ.out p7 (by simp)) _ (HL.out.below HR.out.old)).mono ?_
        rintro e W1 ⟨hW, ⟨v, hv, rfl⟩ | ⟨hv, x, t, q, rfl⟩⟩
        · have HR1 := Lib.hid (HR.out.on hW)
          obtain ⟨c0, c1, c2, c3, cf⟩ := HR1.out.nums.cells
          have HN : Hid (Reading w (W1.setCell ⟨w.heap.size + 2, 3, none⟩ (.int .i64 v)) S [p0, p1, p2, p3, p4, p5, p6, p7] (3 + 1) x0 x1 x2 v) := Lib.hid (HR1.out.set (HR1.out.nums.set v).2.2.2 (fun a b c d h => by
            have h1 := HR1.out.told a b c d h
            have h2 := (HP.out a b c d h).2.2.2
            rw [hv] at h2
            cases h2
            omega))
          clear HR HR1 hw hW hv
          go_wp2_with fail
          go_roundw
          case rel => exact ⟨4, x0, x1, x2, v, by go_num, by omega, HN⟩
          case measure => simp [intOf]
        · have HR1 := Lib.hid (HR.out.on hW)
          obtain ⟨r0, r1, r2, r3, rf⟩ := HR1.out.res.cells
          obtain ⟨s0, s1, s2, s3, _⟩ := (HR1.out.res.set4 0 0 0 0).cells
          have HN : Hid (∀ a b c d, ¬ IsText S.data.toList a b c d) := Lib.hid (fun a b c d h => hv d (HP.out a b c d h).2.2.2)
          have HO := Lib.hid (below_set4 HR1.out.old (.int .i64 0) (.int .i64 0) (.int .i64 0) (.int .i64 0))
          clear HR HR1 hw hW hv
          go_wp2_with fail
          refine bodyPost_ret (v := .tuple #[.agg #[.int .i64 0, .int .i64 0, .int .i64 0, .int .i64 0], .bool false]) (by simp [results, Tryd.f22, go_sem, s0, s1, s2, s3]) rfl ?_
          exact ⟨HO.out, 0, 0, 0, 0, false, rfl, by simp, fun a b c d h => absurd h (HN.out a b c d)⟩
      · obtain ⟨c0, c1, c2, c3, cf⟩ := HR.out.nums.cells
        obtain ⟨r0, r1, r2, r3, rf⟩ := HR.out.res.cells
        obtain ⟨s0, s1, s2, s3, _⟩ := (HR.out.res.set4 x0 x1 x2 x3).cells
        have HO := Lib.hid (below_set4 HR.out.old (.int .i64 x0) (.int .i64 x1) (.int .i64 x2) (.int .i64 x3))
        have HT := Lib.hid HR.out.told
        clear HR
        go_wp2_with fail
        refine bodyPost_ret (v := .tuple #[.agg #[.int .i64 x0, .int .i64 x1, .int .i64 x2, .int .i64 x3], .bool true]) (by simp [results, Tryd.f22, go_sem, s0, s1, s2, s3]) rfl ?_
        exact ⟨HO.out, x0, x1, x2, x3, true, rfl, fun _ => hz, fun a b c d h => by have := HT.out a b c d h; exact ⟨rfl, this.1 (by omega), this.2.1 (by omega), this.2.2.1 (by omega), this.2.2.2 (by omega)⟩⟩
  · have HN : Hid (∀ a b c d, ¬ IsText S.data.toList a b c d) := Lib.hid (fun a b c d h => h8 (words_count h))
    have hle := Lib.splitB_length_le ⟨#[32]⟩ 0 (min 9 (S.size + 1) - 1) S
    generalize Lib.splitB ⟨#[32]⟩ 0 (min 9 (S.size + 1) - 1) S = ps at *
    have h8' : ((ps.length : Int) == 8) = false := by rw [beq_eq_false_iff_ne]; omega
    clear h8 HSP
    go_wp2_with fail
    refine bodyPost_ret (v := .tuple #[.agg #[.int .i64 0, .int .i64 0, .int .i64 0, .int .i64 0], .bool false]) (by simp [results, Tryd.f22, go_sem]) rfl ?_
    exact ⟨below_on HB.out _, 0, 0, 0, 0, false, rfl, by simp, fun a b c d h => absurd h (HN.out a b c d)⟩
end Go.Proofs.YtiifeocfphojaaaDoor
