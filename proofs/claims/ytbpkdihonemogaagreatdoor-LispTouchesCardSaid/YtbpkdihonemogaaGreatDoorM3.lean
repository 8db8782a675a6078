/- Laid together: ArenaRows, ArenaDo, ArenaRefDo, ArenaPlay. -/
import Derived.Test.YtbpkdihonemogaaGreatDoorM2
import Derived.OwnWalk
import Derived.WalkSpells
import Derived.Deep.DrawnRows
import Derived.RegionTactic
/- Package arena's New and All, and the document's Copy and Same, for rows of at most 20000 words; the laws' own first look (awake). -/
namespace Go.Proofs.YtbpkdihonemogaaGreatDoor
open Go Go.RowKit
set_option maxRecDepth 100000

/-- What a slice value of words holds, in a world. -/
def WordsAt (w : World) (a : Option Addr) (n : Nat) (f : Nat → Int) : Prop :=
  n = 0 ∨ ∃ b off, a = some ⟨b, off, none⟩ ∧ b < w.heap.size ∧ ∀ j, j < n → w.cell? ⟨b, off + j, none⟩ = some (.int .u64 (f j))
namespace WordsAt
variable {w w' : World} {a : Option Addr} {n : Nat} {f g : Nat → Int}
theorem below (h : WordsAt w a n f) (hb : Below w.heap.size w w') : WordsAt w' a n f := by
  rcases h with h | ⟨b, off, h1, h2, h3⟩
  · exact .inl h
  · exact .inr ⟨b, off, h1, by have := hb.size; omega, fun j hj => (hb.cell (p := ⟨b, off + j, none⟩) h2).trans (h3 j hj)⟩
theorem at' (h : WordsAt w a n f) {k : Nat} (hk : k < n) : ∃ b off, a = some ⟨b, off, none⟩ ∧ w.cell? ⟨b, off + k, none⟩ = some (.int .u64 (f k)) := by
  rcases h with h | ⟨b, off, h1, h2, h3⟩
  · omega
  · exact ⟨b, off, h1, h3 k hk⟩
theorem congr (h : WordsAt w a n f) (e : ∀ j, j < n → f j = g j) : WordsAt w a n g := by
  rcases h with h | ⟨b, off, h1, h2, h3⟩
  · exact .inl h
  · exact .inr ⟨b, off, h1, h2, fun j hj => by rw [h3 j hj, e j hj]⟩
end WordsAt
theorem RowAt.words {w : World} {R : Nat} {t : TypeId} {n : Nat} {f : Nat → Int} (h : RowAt w R t n f) : WordsAt w (some ⟨R, 0, none⟩) n f :=
  .inr ⟨R, 0, rfl, h.lt, fun j hj => by rw [Nat.zero_add]; exact h.cell hj⟩
theorem infoWord : (Tryz.prog.info? 28).map (fun i => (i.zero, i.size, i.bytes)) = some (some (.int .u64 0), 1, 8) := by kernel_rfl
theorem infoCell : (Tryz.prog.info? 92).map (fun i => (i.zero, i.size, i.bytes)) = some (some (.agg #[.int .u64 0]), 1, 8) := by kernel_rfl
theorem make_words (n : Nat) (hn : n ≤ 20000) (w : World) : (Instr.makeSlice 24 (.int .i64 (n : Int)) (.int .i64 (n : Int))).run Tryz.prog w = .ok (.slice (some ⟨w.heap.size, 0, none⟩) n n) (w.alloc (.cells (madeCells #[.int .u64 0] n) 28)) :=
  run_make_row' 24 28 (.int .u64 0) 8 Tryz.underlying24 infoWord rfl .i64 .i64 n (by omega) (by omega) w
theorem make_cells (n : Nat) (hn : n ≤ 20000) (w : World) : (Instr.makeSlice 93 (.int .i64 (n : Int)) (.int .i64 (n : Int))).run Tryz.prog w = .ok (.slice (some ⟨w.heap.size, 0, none⟩) n n) (w.alloc (.cells (madeCells #[.int .u64 0] n) 92)) := by
  obtain ⟨i, hi, hzz⟩ := Option.map_eq_some_iff.1 infoCell
  simp only [Prod.mk.injEq] at hzz
  obtain ⟨hz, hs, hb⟩ := hzz
  have hr := run_make (P := Tryz.prog) w 93 92 i (.agg #[.int .u64 0]) Tryz.underlying93 hi hz .i64 .i64 n n (by omega) (Int.le_refl _) (by rw [hb]; omega) (by omega)
  simp only [Int.toNat_natCast, hs, Nat.mul_one] at hr
  exact hr

/-- How far New is. -/
structure NewBox (w wr : World) (n : Nat) (f : Nat → Int) (k : Nat) : Prop where
  old : Below w.heap.size w wr
  ar : ArenaAt wr (w.heap.size + 1) w.heap.size n (fun j => if j < k then f j else 0)
/-- What New answers. -/
def NewPost (w : World) (n : Nat) (f : Nat → Int) (e : Ending) (w' : World) : Prop :=
  e = .returned (.pointer (some ⟨w.heap.size + 1, 0, none⟩)) ∧ ArenaAt w' (w.heap.size + 1) w.heap.size n f ∧ Below w.heap.size w w'
theorem NewBox.start (w : World) (n : Nat) (f : Nat → Int) (hn : n ≤ 20000) :
    NewBox w ((w.alloc (.cells (madeCells #[.int .u64 0] n) 92)).alloc (.cells #[.slice (some ⟨w.heap.size, 0, none⟩) n n] 95)) n f 0 := by
  refine ⟨below_on (below_new _ _) _, by omega, ?_, ((RowAt.made w n _).below (below_new _ _)).congr (fun j _ => rfl), by omega⟩
  have := newBlock (w.alloc (.cells (madeCells #[.int .u64 0] n) 92)) (.cells #[.slice (some ⟨w.heap.size, 0, none⟩) n n] 95)
  simpa using this
theorem NewBox.next {w wr : World} {n : Nat} {f : Nat → Int} {k : Nat} (h : NewBox w wr n f k) : NewBox w (wr.setCell ⟨w.heap.size, k, none⟩ (.int .u64 (f k))) n f (k + 1) :=
  ⟨h.old.setCell (p := ⟨w.heap.size, k, none⟩) (Nat.le_refl _) _, (h.ar.set k (f k)).congr (fun j _ => by
    unfold upd
    by_cases e : j = k
    · subst e; rw [if_pos rfl, if_pos (by omega)]
    · rw [if_neg e]
      show (if j < k then f j else 0) = _
      by_cases e2 : j < k
      · rw [if_pos e2, if_pos (by omega)]
      · rw [if_neg e2, if_neg (by omega)])⟩
set_option maxHeartbeats 1600000 in
theorem ArNew_c (a : Option Addr) (n cap : Nat) (f : Nat → Int) (hn : n ≤ 20000) (w : World) (hr : WordsAt w a n f) :
    Calls Tryz.prog 65 #[.slice a n cap] w (NewPost w n f) := by
  have HR := Lib.hid hr
  have HS := Lib.hid (NewBox.start w n f hn)
  have hmk := make_cells n hn
  clear hr
  go_enter Tryz.func65, Tryz.ntmps65
  go_wp2_with fail
  clear hmk
  go_loopw [13] (fun vi wr => ∃ k : Nat, vi = .int .i64 k ∧ k ≤ n ∧ Hid (NewBox w wr n f k)) (fun vi _ => n - (intOf vi).toNat)
  case atStart => exact ⟨0, rfl, Nat.zero_le _, HS⟩
  case round =>
    clear HS
    obtain ⟨k, rfl, hk, HB⟩ := hrel
    by_cases hlt : k < n
    · obtain ⟨b, off, rfl, hc⟩ := (HR.out.below HB.out.old).at' hlt
      have HN := Lib.hid HB.out.next
      have HX := Lib.hid (Store_in HB.out.ar k hlt (f k))
      generalize f k = x at hc HX HN
      clear HB
      go_wp2_with fail
      refine HX.out.mono ?_
      rintro e w' ⟨rfl, rfl⟩
      clear HX hc
      go_wp2_with fail
      go_roundw
      case rel => exact ⟨k + 1, by go_num, by omega, HN⟩
      case measure => simp [intOf]; omega
    · obtain rfl : k = n := by omega
      go_wp2_with fail
      go_ret
      exact ⟨rfl, HB.out.ar.congr (fun j hj => by rw [if_pos hj]), HB.out.old⟩
/-- What All answers. -/
def ArAllPost (w : World) (n : Nat) (f : Nat → Int) (e : Ending) (w' : World) : Prop :=
  e = .returned (.slice (some ⟨w.heap.size, 0, none⟩) n n) ∧ RowAt w' w.heap.size 28 n f ∧ Below w.heap.size w w'
/-- How far All is. -/
structure ArAllBox (w wr : World) (n : Nat) (f : Nat → Int) (k : Nat) : Prop where
  old : Below w.heap.size w wr
  row : RowAt wr w.heap.size 28 n (fun j => if j < k then f j else 0)
theorem ArAllBox.next {w wr : World} {n : Nat} {f : Nat → Int} {k : Nat} (h : ArAllBox w wr n f k) : ArAllBox w (wr.setCell ⟨w.heap.size, k, none⟩ (.int .u64 (f k))) n f (k + 1) :=
  ⟨h.old.setCell (p := ⟨w.heap.size, k, none⟩) (Nat.le_refl _) _, (h.row.set k (f k)).congr (fun j _ => by
    unfold upd
    by_cases e : j = k
    · subst e; rw [if_pos rfl, if_pos (by omega)]
    · rw [if_neg e]
      show (if j < k then f j else 0) = _
      by_cases e2 : j < k
      · rw [if_pos e2, if_pos (by omega)]
      · rw [if_neg e2, if_neg (by omega)])⟩
theorem All_nil (w : World) : Calls Tryz.prog 33 #[.pointer none] w fun e w' => e = .returned (.slice (some ⟨w.heap.size, 0, none⟩) 0 0) ∧ Below w.heap.size w w' := by
  have hmk : ∀ w, (Instr.makeSlice 24 (.int .i64 0) (.int .i64 0)).run Tryz.prog w = .ok (.slice (some ⟨w.heap.size, 0, none⟩) 0 0) (w.alloc (.cells (madeCells #[.int .u64 0] 0) 28)) := make_words 0 (by omega)
  go_enter Tryz.func33, Tryz.ntmps33
  go_wp2_with fail
  refine (Len_nil _).mono ?_
  rintro e w' ⟨rfl, rfl⟩
  go_wp2_with fail
  clear hmk
  go_loopw [10] (fun vi wr => vi = .int .i64 0 ∧ Below w.heap.size w wr) (fun _ _ => 0)
  case atStart => exact ⟨rfl, below_new _ _⟩
  case round =>
    obtain ⟨rfl, HB⟩ := hrel
    go_wp2_with fail
    go_ret
    exact ⟨rfl, HB⟩
set_option maxHeartbeats 1600000 in
theorem All_c {A G n : Nat} {f : Nat → Int} {w : World} (hA : ArenaAt w A G n f) (hn : n ≤ 20000) :
    Calls Tryz.prog 33 #[.pointer (some ⟨A, 0, none⟩)] w (ArAllPost w n f) := by
  have HL := Lib.hid (Len_c hA)
  have HA := Lib.hid hA
  have hmk := make_words n hn
  have HS : Hid (ArAllBox w (w.alloc (.cells (madeCells #[.int .u64 0] n) 28)) n f 0) := Lib.hid ⟨below_new _ _, (RowAt.made w n _).congr (fun j _ => rfl)⟩
  clear hA
  go_enter Tryz.func33, Tryz.ntmps33
  go_wp2_with fail
  refine HL.out.mono ?_
  rintro e w' ⟨rfl, rfl⟩
  go_wp2_with fail
  clear hmk
  go_loopw [10] (fun vi wr => ∃ k : Nat, vi = .int .i64 k ∧ k ≤ n ∧ Hid (ArAllBox w wr n f k)) (fun vi _ => n - (intOf vi).toNat)
  case atStart => exact ⟨0, rfl, Nat.zero_le _, HS⟩
  case round =>
    clear HS HL
    obtain ⟨k, rfl, hk, HB⟩ := hrel
    by_cases hlt : k < n
    · have HN := Lib.hid HB.out.next
      have HX := Lib.hid (Load_in (HA.out.below HB.out.old) k hlt)
      have hc := HB.out.row.cell hlt
      have hf := HB.out.row.frozen k
      generalize f k = x at HX HN
      clear HB
      go_wp2_with fail
      refine HX.out.mono ?_
      rintro e w' ⟨rfl, rfl⟩
      go_wp2_with fail
      clear HX hc hf
      go_roundw
      case rel => exact ⟨k + 1, by go_num, by omega, HN⟩
      case measure => simp [intOf]; omega
    · obtain rfl : k = n := by omega
      go_wp2_with fail
      go_ret
      exact ⟨rfl, HB.out.row.congr (fun j hj => by rw [if_pos hj]), HB.out.old⟩
theorem Same_c (a1 a2 : Option Addr) (n c1 c2 : Nat) (f : Nat → Int) (hn : n ≤ 20000) (w : World) (h1 : WordsAt w a1 n f) (h2 : WordsAt w a2 n f) :
    Calls Tryz.prog 12 #[.slice a1 n c1, .slice a2 n c2] w fun e w' => e = .returned (.bool true) ∧ Below w.heap.size w w' := by
  have HR := Lib.hid h1; have HR2 := Lib.hid h2; clear h1 h2
  go_enter Tryz.func12, Tryz.ntmps12
  go_wp2
  go_loopw [5] (fun vi wr => ∃ k : Nat, vi = .int .i64 k ∧ k ≤ n ∧ Below w.heap.size w wr) (fun vi _ => n - (intOf vi).toNat)
  case atStart => exact ⟨0, rfl, Nat.zero_le _, Below.refl _ _⟩
  case round =>
    obtain ⟨k, rfl, hk, hb⟩ := hrel
    by_cases hlt : k < n
    · obtain ⟨b, off, rfl, hc⟩ := (HR.out.below hb).at' hlt
      obtain ⟨b2, off2, rfl, hc2⟩ := (HR2.out.below hb).at' hlt
      generalize f k = x at hc hc2
      go_wp2
      go_region
      all_goals
        go_wp2
        go_roundw
        case rel => exact ⟨k + 1, by go_num, by omega, by first | exact hb.drew | exact hb.drew.drew | exact hb⟩
        case measure => simp [intOf]; omega
    · obtain rfl : k = n := by omega
      go_wp2
      go_ret
      exact ⟨rfl, hb⟩
def wordsV (n : Nat) (f : Nat → Int) : List Value := (List.range n).map fun j => Value.int .u64 (f j)
theorem wordsV_get {n : Nat} {f : Nat → Int} {j : Nat} {u : Value} (h : (wordsV n f)[j]? = some u) : j < n ∧ u = .int .u64 (f j) := by
  unfold wordsV at h
  rw [List.getElem?_map] at h
  by_cases hj : j < n
  · rw [List.getElem?_range hj] at h; simp at h; exact ⟨hj, h.symm⟩
  · rw [List.getElem?_eq_none (by simp; omega)] at h; simp at h
/-- A slice of words in a block of the call's own. -/
def MineAt (base : Nat) (w : World) (a : Option Addr) (n : Nat) (f : Nat → Int) : Prop := n = 0 ∨ ∃ R, a = some ⟨R, 0, none⟩ ∧ base ≤ R ∧ RowAt w R 28 n f
theorem MineAt.words {base : Nat} {w : World} {a : Option Addr} {n : Nat} {f : Nat → Int} (h : MineAt base w a n f) : WordsAt w a n f := by
  rcases h with h | ⟨R, rfl, _, h⟩
  · exact .inl h
  · exact h.words
theorem MineAt.below {base : Nat} {w w' : World} {a : Option Addr} {n : Nat} {f : Nat → Int} (h : MineAt base w a n f) (hb : Below w.heap.size w w') : MineAt base w' a n f := by
  rcases h with h | ⟨R, rfl, hR, h⟩
  · exact .inl h
  · exact .inr ⟨R, rfl, hR, h.below hb⟩
theorem MineAt.mono {base base' : Nat} {w : World} {a : Option Addr} {n : Nat} {f : Nat → Int} (h : MineAt base w a n f) (hb : base' ≤ base) : MineAt base' w a n f := by
  rcases h with h | ⟨R, rfl, hR, h⟩
  · exact .inl h
  · exact .inr ⟨R, rfl, by omega, h⟩
theorem MineAt.own {base : Nat} {w : World} {v : Value} {n : Nat} {f : Nat → Int} (h : w.ownsRow base 28 1 v n (wordsV n f)) : ∃ a cap, v = .slice a n cap ∧ MineAt base w a n f ∧ ∀ R, a = some ⟨R, 0, none⟩ → base ≤ R ∧ R < w.heap.size := by
  have h' := h
  obtain ⟨_, ⟨rfl, hn⟩ | ⟨g, cap, cur, rfl, hb, hg, _⟩⟩ := h
  · subst hn; exact ⟨none, 0, rfl, .inl rfl, fun R e => by cases e⟩
  · refine ⟨_, cap, rfl, ?_, fun R e => by cases e; exact ⟨hb, (Array.getElem?_eq_some_iff.1 hg).1⟩⟩
    cases n with
    | zero => exact .inl rfl
    | succ n =>
      have hc : ∀ j, j < n + 1 → cur[j]? = some (.int .u64 (f j)) := fun j hj => by
        have := h'.cells rfl j (.int .u64 (f j)) (by unfold wordsV; rw [List.getElem?_map, List.getElem?_range hj]; rfl)
        rw [Addr.add_lit, Nat.zero_add] at this
        simpa [World.cell?, hg] using this
      have hsz : n < cur.size := (Array.getElem?_eq_some_iff.1 (hc n (by omega))).1
      exact .inr ⟨g, rfl, hb, cur, hg, by omega, hc⟩
def CopyPost (w : World) (n : Nat) (f : Nat → Int) (e : Ending) (w' : World) : Prop := ∃ a cap, e = .returned (.slice a n cap) ∧ Below w.heap.size w w' ∧ MineAt w.heap.size w' a n f ∧ ∀ R, a = some ⟨R, 0, none⟩ → w.heap.size ≤ R ∧ R < w'.heap.size
set_option maxHeartbeats 1000000 in
theorem Copy_some (ad : Addr) (n cap : Nat) (f : Nat → Int) (hn : n ≤ 20000) (w : World) (hr : WordsAt w (some ad) n f) :
    Calls Tryz.prog 61 #[.slice (some ad) n cap] w (CopyPost w n f) := by
  obtain ⟨i0, hi, hz0, hz1, hz2⟩ := info_parts infoWord
  have hown : (w.alloc (.cells #[] 28)).ownsRow w.heap.size 28 1 (.slice (some ⟨w.heap.size, 0, none⟩) 0 0) 0 [] := by
    refine ⟨rfl, .inr ⟨w.heap.size, 0, #[], rfl, Nat.le_refl _, newBlock w _, Nat.le_refl _, Nat.zero_le _, rfl, rfl⟩⟩
  have hnews : ∀ j u, (wordsV n f)[j]? = some u → (w.alloc (.cells #[] 28)).cell? (ad.add j) = some u := fun j u h => by
    obtain ⟨hj, rfl⟩ := wordsV_get h
    obtain ⟨b, off, hb, hc⟩ := (hr.below (below_new w (.cells #[] 28))).at' hj
    simp only [Option.some.injEq] at hb
    subst hb
    rw [Addr.add_lit]
    exact hc
  have h1c : ∀ u ∈ wordsV n f, u.oneCell' = true := fun u hu => by
    unfold wordsV at hu; obtain ⟨x, _, rfl⟩ := List.mem_map.1 hu; rfl
  have hlen : (wordsV n f).length = n * 1 := by simp [wordsV]
  have hm : 0 + n ≤ maxLen := by unfold maxLen; omega
  have HO := Lib.hid hown; have HN := Lib.hid hnews; have H1 := Lib.hid h1c; have HL := Lib.hid hlen
  clear hown hnews h1c hlen hr
  go_enter Tryz.func61, Tryz.ntmps61
  go_wp2_with (at_builtin; refine wpList_append_own _ rfl _ _ 24 rfl w.heap.size 28 i0 (.int .u64 0) 1 8 Tryz.underlying24 hi hz0 hz1 hz2 rfl (by decide) _ _ _ rfl HO.out ad n cap (wordsV n f) rfl HL.out HN.out H1.out hm (by omega) (by simp) ?_; intro v' w1 hown' hgrow _)
  have hB : Below w.heap.size w w1 := ((Below.refl _ w).alloc (Nat.le_refl _) _).grown hgrow (by simp) (fun k e => by cases e; exact Nat.le_refl _)
  rw [Nat.zero_add, List.nil_append] at hown'
  obtain ⟨a', c', rfl, hW, hA⟩ := MineAt.own hown'
  clear hown' hgrow
  go_wp2
  go_ret
  exact ⟨a', c', rfl, hB, hW, hA⟩
theorem Copy_nil (f : Nat → Int) (w : World) : Calls Tryz.prog 61 #[.slice none 0 0] w (CopyPost w 0 f) := by
  have HB := Lib.hid (below_new w (.cells #[] 28))
  go_enter Tryz.func61, Tryz.ntmps61
  go_wp2_with fail
  go_ret
  exact ⟨_, 0, rfl, HB.out, .inl rfl, fun R e => by cases e; exact ⟨Nat.le_refl _, by simp⟩⟩
theorem Copy_c (a : Option Addr) (n cap : Nat) (f : Nat → Int) (hn : n ≤ 20000) (w : World) (hr : WordsAt w a n f) (ha : a = none → n = 0 ∧ cap = 0) :
    Calls Tryz.prog 61 #[.slice a n cap] w (CopyPost w n f) := by
  cases a with
  | none => obtain ⟨rfl, rfl⟩ := ha rfl; exact Copy_nil f w
  | some ad => exact Copy_some ad n cap f hn w hr
end Go.Proofs.YtbpkdihonemogaaGreatDoor
/- Package arena's Do: an access at a place that is there, of each kind; of no kind; at a place that isn't there. -/
namespace Go.Proofs.YtbpkdihonemogaaGreatDoor
open Go Go.RowKit
set_option maxRecDepth 100000

/-- An access lies in block B. -/
def Acc5 (w : World) (B : Nat) (k i x y o : Int) : Prop := w.heap[B]? = some (.cells #[.int .i64 k, .int .i64 i, .int .u64 x, .int .u64 y, .int .u64 o] 60 (0, 0))
namespace Acc5
variable {w w' : World} {B : Nat} {k i x y o : Int}
theorem cells (h : Acc5 w B k i x y o) : w.cell? ⟨B, 0, none⟩ = some (.int .i64 k) ∧ w.cell? ⟨B, 1, none⟩ = some (.int .i64 i) ∧ w.cell? ⟨B, 2, none⟩ = some (.int .u64 x) ∧ w.cell? ⟨B, 3, none⟩ = some (.int .u64 y) ∧ w.cell? ⟨B, 4, none⟩ = some (.int .u64 o) ∧ (∀ j, w.frozen? ⟨B, j, none⟩ = false) := by
  unfold Acc5 at h
  refine ⟨by simp [World.cell?, h], by simp [World.cell?, h], by simp [World.cell?, h], by simp [World.cell?, h], by simp [World.cell?, h], fun j => by simp [World.frozen?, h]⟩
theorem lt (h : Acc5 w B k i x y o) : B < w.heap.size := (Array.getElem?_eq_some_iff.1 h).1
theorem other (h : Acc5 w B k i x y o) (e : w'.heap[B]? = w.heap[B]?) : Acc5 w' B k i x y o := e.trans h
theorem below (h : Acc5 w B k i x y o) (hb : Below w.heap.size w w') : Acc5 w' B k i x y o := h.other (hb.block _ h.lt)
theorem setOther (h : Acc5 w B k i x y o) {p : Addr} (hp : B ≠ p.block) (v : Value) : Acc5 (w.setCell p v) B k i x y o := h.other (Below.heap_setCell _ _ _ _ hp)
theorem set4 (h : Acc5 w B k i x y o) (z : Int) : Acc5 (w.setCell ⟨B, 4, none⟩ (.int .u64 z)) B k i x y z := by
  unfold Acc5 at *; simp [World.setCell, Array.getElem?_modify, h]
theorem new (w : World) (k i x y o : Int) : Acc5 (w.alloc (.cells #[.int .i64 k, .int .i64 i, .int .u64 x, .int .u64 y, .int .u64 o] 60)) w.heap.size k i x y o := newBlock _ _
end Acc5
abbrev put5 (w : World) (C : Nat) (k i x y o : Int) : World := ((((w.setCell ⟨C, 0, none⟩ (.int .i64 k)).setCell ⟨C, 1, none⟩ (.int .i64 i)).setCell ⟨C, 2, none⟩ (.int .u64 x)).setCell ⟨C, 3, none⟩ (.int .u64 y)).setCell ⟨C, 4, none⟩ (.int .u64 o)
theorem Acc5.put {w : World} {C : Nat} {k i x y o : Int} (h : Acc5 w C k i x y o) (k' i' x' y' o' : Int) : Acc5 (put5 w C k' i' x' y' o') C k' i' x' y' o' := by
  unfold Acc5 at *; simp [World.setCell, Array.getElem?_modify, h]
/-- Of what was there nothing has turned but block G. -/
structure Only (G : Nat) (w w' : World) : Prop where
  os : w'.os = w.os
  tape : w'.tape = w.tape
  output : w'.output = w.output
  size : w.heap.size ≤ w'.heap.size
  block : ∀ k, k < w.heap.size → k ≠ G → w'.heap[k]? = w.heap[k]?
theorem Only.of {G : Nat} {w w' : World} (h : Below w.heap.size w w') : Only G w w' := ⟨h.os, h.tape, h.output, h.size, fun k hk _ => h.block k hk⟩
theorem Only.trans {G : Nat} {a b c : World} (h : Only G a b) (k : Only G b c) : Only G a c :=
  ⟨k.os.trans h.os, k.tape.trans h.tape, k.output.trans h.output, Nat.le_trans h.size k.size, fun i hi hg => (k.block i (by have := h.size; omega) hg).trans (h.block i hi hg)⟩
theorem Only.set {G : Nat} {a w : World} (h : Only G a w) {p : Addr} (hp : p.block = G ∨ a.heap.size ≤ p.block) (v : Value) : Only G a (w.setCell p v) :=
  ⟨h.os, h.tape, h.output, by have := h.size; simpa [World.setCell] using this, fun k hk hg => (Below.heap_setCell _ _ _ _ (by omega)).trans (h.block k hk hg)⟩
theorem Only.put {G : Nat} {a w : World} (h : Only G a w) {C : Nat} (hC : a.heap.size ≤ C) (k i x y o : Int) : Only G a (put5 w C k i x y o) :=
  ((((h.set (p := ⟨C, 0, none⟩) (.inr hC) _).set (p := ⟨C, 1, none⟩) (.inr hC) _).set (p := ⟨C, 2, none⟩) (.inr hC) _).set (p := ⟨C, 3, none⟩) (.inr hC) _).set (p := ⟨C, 4, none⟩) (.inr hC) _
theorem Only.below {G B : Nat} {w w' : World} (h : Only G w w') (h1 : B ≤ w.heap.size) (h2 : B ≤ G) : Below B w w' := ⟨h.os, h.tape, h.output, h.size, fun k hk => h.block k (by omega) (by omega)⟩
theorem ArenaAt.put {w : World} {A G n : Nat} {f : Nat → Int} (h : ArenaAt w A G n f) {C : Nat} (h1 : C ≠ A) (h2 : C ≠ G) (k i x y o : Int) : ArenaAt (put5 w C k i x y o) A G n f :=
  ((((h.setOther (p := ⟨C, 0, none⟩) h1 h2 _).setOther (p := ⟨C, 1, none⟩) h1 h2 _).setOther (p := ⟨C, 2, none⟩) h1 h2 _).setOther (p := ⟨C, 3, none⟩) h1 h2 _).setOther (p := ⟨C, 4, none⟩) h1 h2 _
abbrev accV (k i x y o : Int) : Value := .agg #[.int .i64 k, .int .i64 i, .int .u64 x, .int .u64 y, .int .u64 o]
/-- How it is when Do begins: the access lies in block B, the answer in block C. -/
abbrev begun (w : World) (k i x y o : Int) : World := (w.alloc (.cells #[.int .i64 k, .int .i64 i, .int .u64 x, .int .u64 y, .int .u64 o] 60)).alloc (.cells #[.int .i64 0, .int .i64 0, .int .u64 0, .int .u64 0, .int .u64 0] 60)
theorem begun_acc (w : World) (k i x y o : Int) : Acc5 (begun w k i x y o) w.heap.size k i x y o := (Acc5.new w k i x y o).below (below_new _ _)
theorem begun_ans (w : World) (k i x y o : Int) : Acc5 (begun w k i x y o) (w.heap.size + 1) 0 0 0 0 0 := by
  have := Acc5.new (w.alloc (.cells #[.int .i64 k, .int .i64 i, .int .u64 x, .int .u64 y, .int .u64 o] 60)) 0 0 0 0 0
  simpa using this
theorem begun_below (w : World) (k i x y o : Int) : Below w.heap.size w (begun w k i x y o) := below_on (below_new _ _) _
set_option maxHeartbeats 1600000 in
theorem Do_out {w : World} {p : Option Addr} (k i x y o : Int) (h : ∀ W, Below w.heap.size w W → NoPlace W (.pointer p) i) :
    Calls Tryz.prog 138 #[.pointer p, accV k i x y o] w fun e w' => e = .returned (.tuple #[accV 0 0 0 0 0, .bool false]) ∧ Below w.heap.size w w' := by
  have HN := Lib.hid (h _ (begun_below w k i x y o)); clear h
  obtain ⟨b0, b1, b2, b3, b4, bf⟩ := (begun_acc w k i x y o).cells
  go_enter Tryz.func138, Tryz.ntmps138
  go_wp2_with fail
  refine HN.out.mono ?_
  rintro e W ⟨rfl, hW⟩
  have HC : Hid (Acc5 W (w.heap.size + 1) 0 0 0 0 0) := Lib.hid (by rw [← hW]; exact begun_ans w k i x y o)
  have HB : Hid (Below w.heap.size w W) := Lib.hid (by rw [← hW]; exact begun_below w k i x y o)
  clear HN hW b0 b1 b2 b3 b4 bf
  obtain ⟨c0, c1, c2, c3, c4, cf⟩ := HC.out.cells
  obtain ⟨s0, s1, s2, s3, s4, _⟩ := (HC.out.put 0 0 0 0 0).cells
  go_wp2_with fail
  refine bodyPost_ret (v := .tuple #[accV 0 0 0 0 0, .bool false]) (by simp [results, Tryz.f138, go_sem, s0, s1, s2, s3, s4]) rfl ?_
  exact ⟨rfl, ((Only.of (G := w.heap.size) HB.out).put (by omega) _ _ _ _ _).below (Nat.le_refl _) (Nat.le_refl _)⟩
theorem Cas_was {A G n : Nat} {f : Nat → Int} {w : World} (hA : ArenaAt w A G n f) (k : Nat) (hk : k < n) (y : Int) {x : Int} (hx : f k = x) :
    Calls Tryz.prog 140 #[.pointer (some ⟨A, 0, none⟩), .int .i64 k, .int .u64 x, .int .u64 y] w fun e w' => e = .returned (.bool true) ∧ w' = w.setCell ⟨G, k, none⟩ (.int .u64 y) := by
  have h := Cas_hit hA k hk y; rwa [hx] at h
/-- What an access at a place that is there leaves. -/
def doF (f : Nat → Int) (k : Int) (j : Nat) (x y : Int) : Nat → Int :=
  if k = 2 then upd f j x else if k = 3 then (if f j = x then upd f j y else f) else if k = 4 then upd f j (sumW (f j) x) else f
/-- What Do answers at a place that is there. -/
def DoPost (w : World) (A G n : Nat) (f' : Nat → Int) (v : Value) (b : Bool) (e : Ending) (w' : World) : Prop := e = .returned (.tuple #[v, .bool b]) ∧ ArenaAt w' A G n f' ∧ Only G w w'
/-- How it is behind the load: Old is laid down. -/
structure Half (w W : World) (A G n : Nat) (f : Nat → Int) (k i x y o : Int) : Prop where
  only : Only G w W
  ar : ArenaAt W A G n f
  acc : Acc5 W w.heap.size k i x y o
  ans : Acc5 W (w.heap.size + 1) 0 0 0 0 0
  a : A < w.heap.size
  g : G < w.heap.size
theorem Half.begun {w : World} {A G n : Nat} {f : Nat → Int} (hA : ArenaAt w A G n f) (k i x y o : Int) : Half w (begun w k i x y o) A G n f k i x y o :=
  ⟨.of (begun_below ..), hA.below (begun_below ..), begun_acc .., begun_ans .., hA.lt, hA.row.lt⟩
theorem Half.old {w W : World} {A G n : Nat} {f : Nat → Int} {k i x y o : Int} (h : Half w W A G n f k i x y o) (z : Int) : Half w (W.setCell ⟨w.heap.size, 4, none⟩ (.int .u64 z)) A G n f k i x y z :=
  have ha := h.a; have hg := h.g
  ⟨h.only.set (p := ⟨w.heap.size, 4, none⟩) (.inr (Nat.le_refl _)) _, h.ar.setOther (p := ⟨w.heap.size, 4, none⟩) (by simp only; omega) (by simp only; omega) _, h.acc.set4 z, h.ans.setOther (p := ⟨w.heap.size, 4, none⟩) (by simp only; omega) _, ha, hg⟩
theorem Half.word {w W : World} {A G n : Nat} {f : Nat → Int} {k i x y o : Int} (h : Half w W A G n f k i x y o) (j : Nat) (z : Int) : Half w (W.setCell ⟨G, j, none⟩ (.int .u64 z)) A G n (upd f j z) k i x y o :=
  have hg := h.g
  ⟨h.only.set (p := ⟨G, j, none⟩) (.inl rfl) _, h.ar.set j z, h.acc.setOther (p := ⟨G, j, none⟩) (by simp only; omega) _, h.ans.setOther (p := ⟨G, j, none⟩) (by simp only; omega) _, h.a, hg⟩
theorem Half.post {w W : World} {A G n : Nat} {f : Nat → Int} {k i x y o : Int} (h : Half w W A G n f k i x y o) (k' i' x' y' o' : Int) (b : Bool) :
    DoPost w A G n f (accV k' i' x' y' o') b (.returned (.tuple #[accV k' i' x' y' o', .bool b])) (put5 W (w.heap.size + 1) k' i' x' y' o') :=
  have ha := h.a; have hg := h.g
  ⟨rfl, h.ar.put (by omega) (by omega) _ _ _ _ _, h.only.put (by omega) _ _ _ _ _⟩
set_option maxHeartbeats 3200000 in
theorem Do_load {A G n : Nat} {f : Nat → Int} {w : World} (hA : ArenaAt w A G n f) (j : Nat) (hj : j < n) (x y o : Int) :
    Calls Tryz.prog 138 #[.pointer (some ⟨A, 0, none⟩), accV 1 j x y o] w (DoPost w A G n f (accV 1 j x y (f j)) true) := by
  have HF := Lib.hid (Half.begun hA 1 j x y o)
  have HN := Lib.hid (has_in HF.out.ar (i := j) (by omega))
  have HL := Lib.hid (Load_in HF.out.ar j hj)
  obtain ⟨b0, b1, b2, b3, b4, bf⟩ := HF.out.acc.cells
  clear hA
  generalize hv : f j = v at HL
  go_enter Tryz.func138, Tryz.ntmps138
  go_wp2_with fail
  refine HN.out.mono ?_
  rintro e W ⟨rfl, hW⟩
  rw [hW] at HF HL
  clear HN b0 b1 b2 b3 b4 bf hW
  obtain ⟨b0, b1, b2, b3, b4, bf⟩ := HF.out.acc.cells
  go_wp2_with fail
  refine HL.out.mono ?_
  rintro e W1 ⟨rfl, rfl⟩
  have HO := Lib.hid (HF.out.old v)
  obtain ⟨c0, c1, c2, c3, c4, cf⟩ := HF.out.ans.cells
  obtain ⟨s0, s1, s2, s3, s4, _⟩ := (HO.out.ans.put 1 j x y v).cells
  clear HL
  go_wp2_with fail
  refine bodyPost_ret (v := .tuple #[accV 1 j x y v, .bool true]) (by simp [results, Tryz.f138, go_sem, s0, s1, s2, s3, s4]) rfl ?_
  first | exact HO.out.post 1 j x y v true | (rw [hv] at HO; exact HO.out.post 1 j x y v true)
set_option maxHeartbeats 3200000 in
theorem Do_store {A G n : Nat} {f : Nat → Int} {w : World} (hA : ArenaAt w A G n f) (j : Nat) (hj : j < n) (x y o : Int) :
    Calls Tryz.prog 138 #[.pointer (some ⟨A, 0, none⟩), accV 2 j x y o] w (DoPost w A G n (upd f j x) (accV 2 j x y (f j)) true) := by
  have HF := Lib.hid (Half.begun hA 2 j x y o)
  have HN := Lib.hid (has_in HF.out.ar (i := j) (by omega))
  have HL := Lib.hid (Load_in HF.out.ar j hj)
  obtain ⟨b0, b1, b2, b3, b4, bf⟩ := HF.out.acc.cells
  clear hA
  generalize hv : f j = v at HL
  go_enter Tryz.func138, Tryz.ntmps138
  go_wp2_with fail
  refine HN.out.mono ?_
  rintro e W ⟨rfl, hW⟩
  rw [hW] at HF HL
  clear HN b0 b1 b2 b3 b4 bf hW
  obtain ⟨b0, b1, b2, b3, b4, bf⟩ := HF.out.acc.cells
  go_wp2_with fail
  refine HL.out.mono ?_
  rintro e W1 ⟨rfl, rfl⟩
  have HO := Lib.hid (HF.out.old v)
  have HV := Lib.hid (Store_in HO.out.ar j hj x)
  clear HL
  go_wp2_with fail
  refine HV.out.mono ?_
  rintro e W2 ⟨rfl, hW⟩
  have HP : Hid (Half w W2 A G n (upd f j x) 2 j x y v) := Lib.hid (by rw [hW]; exact HO.out.word j x)
  clear HV HO HF b0 b1 b2 b3 b4 bf hW
  obtain ⟨b0, b1, b2, b3, b4, bf⟩ := HP.out.acc.cells
  obtain ⟨c0, c1, c2, c3, c4, cf⟩ := HP.out.ans.cells
  obtain ⟨s0, s1, s2, s3, s4, _⟩ := (HP.out.ans.put 2 j x y v).cells
  go_wp2_with fail
  refine bodyPost_ret (v := .tuple #[accV 2 j x y v, .bool true]) (by simp [results, Tryz.f138, go_sem, s0, s1, s2, s3, s4]) rfl ?_
  first | exact HP.out.post 2 j x y v true | (rw [hv] at HP; exact HP.out.post 2 j x y v true)
set_option maxHeartbeats 3200000 in
theorem Do_hit {A G n : Nat} {f : Nat → Int} {w : World} (hA : ArenaAt w A G n f) (j : Nat) (hj : j < n) (x y o : Int) (hx : f j = x) :
    Calls Tryz.prog 138 #[.pointer (some ⟨A, 0, none⟩), accV 3 j x y o] w (DoPost w A G n (upd f j y) (accV 3 j x y (f j)) true) := by
  have HF := Lib.hid (Half.begun hA 3 j x y o)
  have HN := Lib.hid (has_in HF.out.ar (i := j) (by omega))
  have HL := Lib.hid (Load_in HF.out.ar j hj)
  obtain ⟨b0, b1, b2, b3, b4, bf⟩ := HF.out.acc.cells
  clear hA
  generalize hv : f j = v at HL
  obtain rfl : v = x := hv.symm.trans hx
  go_enter Tryz.func138, Tryz.ntmps138
  go_wp2_with fail
  refine HN.out.mono ?_
  rintro e W ⟨rfl, hW⟩
  rw [hW] at HF HL
  clear HN b0 b1 b2 b3 b4 bf hW
  obtain ⟨b0, b1, b2, b3, b4, bf⟩ := HF.out.acc.cells
  go_wp2_with fail
  refine HL.out.mono ?_
  rintro e W1 ⟨rfl, rfl⟩
  have HO := Lib.hid (HF.out.old v)
  have HV := Lib.hid (Cas_was HO.out.ar j hj y hv)
  clear HL
  go_wp2_with fail
  refine HV.out.mono ?_
  rintro e W2 ⟨rfl, hW⟩
  have HP : Hid (Half w W2 A G n (upd f j y) 3 j v y v) := Lib.hid (by rw [hW]; exact HO.out.word j y)
  clear HV HO HF b0 b1 b2 b3 b4 bf hW
  obtain ⟨b0, b1, b2, b3, b4, bf⟩ := HP.out.acc.cells
  obtain ⟨c0, c1, c2, c3, c4, cf⟩ := HP.out.ans.cells
  obtain ⟨s0, s1, s2, s3, s4, _⟩ := (HP.out.ans.put 3 j v y v).cells
  go_wp2_with fail
  refine bodyPost_ret (v := .tuple #[accV 3 j v y v, .bool true]) (by simp [results, Tryz.f138, go_sem, s0, s1, s2, s3, s4]) rfl ?_
  first | exact HP.out.post 3 j v y v true | (rw [hv] at HP; exact HP.out.post 3 j v y v true)
set_option maxHeartbeats 3200000 in
theorem Do_miss {A G n : Nat} {f : Nat → Int} {w : World} (hA : ArenaAt w A G n f) (j : Nat) (hj : j < n) (x y o : Int) (hx : ¬ f j = x) :
    Calls Tryz.prog 138 #[.pointer (some ⟨A, 0, none⟩), accV 3 j x y o] w (DoPost w A G n f (accV 3 j x y (f j)) true) := by
  have HF := Lib.hid (Half.begun hA 3 j x y o)
  have HN := Lib.hid (has_in HF.out.ar (i := j) (by omega))
  have HL := Lib.hid (Load_in HF.out.ar j hj)
  obtain ⟨b0, b1, b2, b3, b4, bf⟩ := HF.out.acc.cells
  clear hA
  generalize hv : f j = v at HL
  go_enter Tryz.func138, Tryz.ntmps138
  go_wp2_with fail
  refine HN.out.mono ?_
  rintro e W ⟨rfl, hW⟩
  rw [hW] at HF HL
  clear HN b0 b1 b2 b3 b4 bf hW
  obtain ⟨b0, b1, b2, b3, b4, bf⟩ := HF.out.acc.cells
  go_wp2_with fail
  refine HL.out.mono ?_
  rintro e W1 ⟨rfl, rfl⟩
  have HO := Lib.hid (HF.out.old v)
  have HV := Lib.hid (Cas_miss HO.out.ar j hj x y hx)
  clear HL
  go_wp2_with fail
  refine HV.out.mono ?_
  rintro e W2 ⟨rfl, hW⟩
  have HP : Hid (Half w W2 A G n f 3 j x y v) := Lib.hid (by rw [← hW]; exact HO.out)
  clear HV HO HF b0 b1 b2 b3 b4 bf hW
  obtain ⟨b0, b1, b2, b3, b4, bf⟩ := HP.out.acc.cells
  obtain ⟨c0, c1, c2, c3, c4, cf⟩ := HP.out.ans.cells
  obtain ⟨s0, s1, s2, s3, s4, _⟩ := (HP.out.ans.put 3 j x y v).cells
  go_wp2_with fail
  refine bodyPost_ret (v := .tuple #[accV 3 j x y v, .bool true]) (by simp [results, Tryz.f138, go_sem, s0, s1, s2, s3, s4]) rfl ?_
  first | exact HP.out.post 3 j x y v true | (rw [hv] at HP; exact HP.out.post 3 j x y v true)
set_option maxHeartbeats 3200000 in
theorem Do_add {A G n : Nat} {f : Nat → Int} {w : World} (hA : ArenaAt w A G n f) (j : Nat) (hj : j < n) (x y o : Int) (hu : U64 (f j)) :
    Calls Tryz.prog 138 #[.pointer (some ⟨A, 0, none⟩), accV 4 j x y o] w (DoPost w A G n (upd f j (sumW (f j) x)) (accV 4 j x y (f j)) true) := by
  have HF := Lib.hid (Half.begun hA 4 j x y o)
  have HN := Lib.hid (has_in HF.out.ar (i := j) (by omega))
  have HL := Lib.hid (Load_in HF.out.ar j hj)
  obtain ⟨b0, b1, b2, b3, b4, bf⟩ := HF.out.acc.cells
  clear hA
  generalize hv : f j = v at HL
  go_enter Tryz.func138, Tryz.ntmps138
  go_wp2_with fail
  refine HN.out.mono ?_
  rintro e W ⟨rfl, hW⟩
  rw [hW] at HF HL
  clear HN b0 b1 b2 b3 b4 bf hW
  obtain ⟨b0, b1, b2, b3, b4, bf⟩ := HF.out.acc.cells
  go_wp2_with fail
  refine HL.out.mono ?_
  rintro e W1 ⟨rfl, rfl⟩
  have HO := Lib.hid (HF.out.old v)
  have HV := Lib.hid (Add_in HO.out.ar j hj hu x)
  clear HL
  go_wp2_with fail
  refine HV.out.mono ?_
  rintro e W2 ⟨rfl, hW⟩
  have HP : Hid (Half w W2 A G n (upd f j (sumW (f j) x)) 4 j x y v) := Lib.hid (by rw [hW]; exact HO.out.word j _)
  clear HV HO HF b0 b1 b2 b3 b4 bf hW
  obtain ⟨b0, b1, b2, b3, b4, bf⟩ := HP.out.acc.cells
  obtain ⟨c0, c1, c2, c3, c4, cf⟩ := HP.out.ans.cells
  obtain ⟨s0, s1, s2, s3, s4, _⟩ := (HP.out.ans.put 4 j x y v).cells
  go_wp2_with fail
  refine bodyPost_ret (v := .tuple #[accV 4 j x y v, .bool true]) (by simp [results, Tryz.f138, go_sem, s0, s1, s2, s3, s4]) rfl ?_
  first | exact HP.out.post 4 j x y v true | (rw [hv] at HP; exact HP.out.post 4 j x y v true)
set_option maxHeartbeats 3200000 in
theorem Do_none {A G n : Nat} {f : Nat → Int} {w : World} (hA : ArenaAt w A G n f) (k : Int) (j : Nat) (hj : j < n) (x y o : Int) (hk : ¬ (1 ≤ k ∧ k ≤ 4)) :
    Calls Tryz.prog 138 #[.pointer (some ⟨A, 0, none⟩), accV k j x y o] w (DoPost w A G n f (accV 0 0 0 0 0) false) := by
  have HF := Lib.hid (Half.begun hA k j x y o)
  have HN := Lib.hid (has_in HF.out.ar (i := j) (by omega))
  have HL := Lib.hid (Load_in HF.out.ar j hj)
  have k1 : (k == 1) = false := by rw [beq_eq_false_iff_ne]; omega
  have k2 : (k == 2) = false := by rw [beq_eq_false_iff_ne]; omega
  have k3 : (k == 3) = false := by rw [beq_eq_false_iff_ne]; omega
  have k4 : (k == 4) = false := by rw [beq_eq_false_iff_ne]; omega
  clear hk
  obtain ⟨b0, b1, b2, b3, b4, bf⟩ := HF.out.acc.cells
  clear hA
  generalize hv : f j = v at HL
  go_enter Tryz.func138, Tryz.ntmps138
  go_wp2_with fail
  refine HN.out.mono ?_
  rintro e W ⟨rfl, hW⟩
  rw [hW] at HF HL
  clear HN b0 b1 b2 b3 b4 bf hW
  obtain ⟨b0, b1, b2, b3, b4, bf⟩ := HF.out.acc.cells
  go_wp2_with fail
  refine HL.out.mono ?_
  rintro e W1 ⟨rfl, rfl⟩
  have HO := Lib.hid (HF.out.old v)
  obtain ⟨c0, c1, c2, c3, c4, cf⟩ := HF.out.ans.cells
  obtain ⟨s0, s1, s2, s3, s4, _⟩ := (HO.out.ans.put 0 0 0 0 0).cells
  clear HL
  go_wp2_with fail
  refine bodyPost_ret (v := .tuple #[accV 0 0 0 0 0, .bool false]) (by simp [results, Tryz.f138, go_sem, s0, s1, s2, s3, s4]) rfl ?_
  first | exact HO.out.post 0 0 0 0 0 false | (rw [hv] at HO; exact HO.out.post 0 0 0 0 0 false)
end Go.Proofs.YtbpkdihonemogaaGreatDoor
/- The document's Do over a row of words of one's own: an access at a place that is there, of each kind; of no kind; at a place that isn't there. -/
namespace Go.Proofs.YtbpkdihonemogaaGreatDoor
open Go Go.RowKit
set_option maxRecDepth 100000
/-- What the document's Do answers at a place that is there. -/
def RefPost (w : World) (R n : Nat) (f' : Nat → Int) (v : Value) (e : Ending) (w' : World) : Prop := e = .returned (.tuple #[v, .bool true]) ∧ RowAt w' R 28 n f' ∧ Only R w w'
theorem ref_same {w : World} {R n : Nat} {f : Nat → Int} (h : RowAt w R 28 n f) (v : Value) (o1 o2 : Obj) : RefPost w R n f v (.returned (.tuple #[v, .bool true])) ((w.alloc o1).alloc o2) :=
  ⟨rfl, (h.below (below_new _ _)).below (below_new _ _), .of (below_on (below_new _ _) _)⟩
theorem ref_set {w : World} {R n : Nat} {f : Nat → Int} (h : RowAt w R 28 n f) (j : Nat) (x : Int) (v : Value) (o1 o2 : Obj) : RefPost w R n (upd f j x) v (.returned (.tuple #[v, .bool true])) (((w.setCell ⟨R, j, none⟩ (.int .u64 x)).alloc o1).alloc o2) :=
  ⟨rfl, ((h.set j x).below (below_new _ _)).below (below_new _ _), ((Only.of (Below.refl _ _)).set (p := ⟨R, j, none⟩) (.inl rfl) _).trans (.of (below_on (below_new _ _) _))⟩
theorem Do_good {A G n : Nat} {f : Nat → Int} {w : World} (hA : ArenaAt w A G n f) (k : Int) (j : Nat) (hj : j < n) (x y o : Int) (hk : 1 ≤ k ∧ k ≤ 4) (hu : U64 (f j)) :
    Calls Tryz.prog 138 #[.pointer (some ⟨A, 0, none⟩), accV k j x y o] w (DoPost w A G n (doF f k j x y) (accV k j x y (f j)) true) := by
  obtain rfl | rfl | rfl | rfl : k = 1 ∨ k = 2 ∨ k = 3 ∨ k = 4 := by omega
  · exact Do_load hA j hj x y o
  · exact Do_store hA j hj x y o
  · by_cases hx : f j = x
    · rw [show doF f 3 j x y = upd f j y by unfold doF; rw [if_neg (by decide), if_pos rfl, if_pos hx]]
      exact Do_hit hA j hj x y o hx
    · rw [show doF f 3 j x y = f by unfold doF; rw [if_neg (by decide), if_pos rfl, if_neg hx]]
      exact Do_miss hA j hj x y o hx
  · exact Do_add hA j hj x y o hu
theorem Do_bad {A G n : Nat} {f : Nat → Int} {w : World} (hA : ArenaAt w A G n f) (k i x y o : Int) (h : ¬ (1 ≤ k ∧ k ≤ 4 ∧ 0 ≤ i ∧ i < n)) :
    Calls Tryz.prog 138 #[.pointer (some ⟨A, 0, none⟩), accV k i x y o] w (DoPost w A G n f (accV 0 0 0 0 0) false) := by
  by_cases hi : 0 ≤ i ∧ i < n
  · obtain ⟨j, rfl⟩ : ∃ j : Nat, i = j := ⟨i.toNat, by omega⟩
    exact Do_none hA k j (by omega) x y o (by omega)
  · exact (Do_out k i x y o (fun W hW => noPlace_out (hA.below hW) hi)).mono fun e w' ⟨h1, h2⟩ => ⟨h1, hA.below h2, .of h2⟩
end Go.Proofs.YtbpkdihonemogaaGreatDoor
/- An arena and a row of words of one's own, side by side: what is done to the one leaves the other alone. -/
namespace Go.Proofs.YtbpkdihonemogaaGreatDoor
open Go Go.RowKit
set_option maxRecDepth 100000

/-- Of what was there nothing has turned but the block that a slice begins at. -/
structure OnlyO (a : Option Addr) (w w' : World) : Prop where
  os : w'.os = w.os
  tape : w'.tape = w.tape
  output : w'.output = w.output
  size : w.heap.size ≤ w'.heap.size
  block : ∀ k, k < w.heap.size → a ≠ some ⟨k, 0, none⟩ → w'.heap[k]? = w.heap[k]?
/-- How it stands: the arena has the words f, the document's row the words h. -/
structure Play (w wr : World) (A G : Nat) (a : Option Addr) (n N M : Nat) (f h : Nat → Int) : Prop where
  old : Below w.heap.size w wr
  ar : ArenaAt wr A G n f
  mine : MineAt N wr a n h
  big : M ≤ wr.heap.size
  g0 : w.heap.size ≤ G
  apart : ∀ R, a = some ⟨R, 0, none⟩ → w.heap.size ≤ R ∧ R ≠ A ∧ R ≠ G ∧ R < M
namespace Play
variable {w wr W : World} {A G : Nat} {a : Option Addr} {n N M : Nat} {f f' h h' : Nat → Int}
theorem below (p : Play w wr A G a n N M f h) (hb : Below wr.heap.size wr W) : Play w W A G a n N M f h :=
  ⟨belowOn p.old hb, p.ar.below hb, p.mine.below hb, Nat.le_trans p.big hb.size, p.g0, p.apart⟩
theorem act (p : Play w wr A G a n N M f h) (ho : Only G wr W) (ha : ArenaAt W A G n f') : Play w W A G a n N M f' h := by
  refine ⟨p.old.trans (ho.below p.old.size p.g0), ha, ?_, Nat.le_trans p.big ho.size, p.g0, p.apart⟩
  rcases p.mine with e | ⟨R, e, hR, hr⟩
  · exact .inl e
  · exact .inr ⟨R, e, hR, hr.other (ho.block R hr.lt (p.apart R e).2.2.1)⟩
theorem ref (p : Play w wr A G a n N M f h) (ho : OnlyO a wr W) (hm : MineAt N W a n h') : Play w W A G a n N M f h' := by
  have ne : ∀ k, k < w.heap.size → a ≠ some ⟨k, 0, none⟩ := fun k hk e => by have := (p.apart k e).1; omega
  exact ⟨p.old.trans ⟨ho.os, ho.tape, ho.output, ho.size, fun k hk => ho.block k (by have := p.old.size; omega) (ne k hk)⟩, p.ar.other (ho.block A p.ar.lt (fun e => (p.apart A e).2.1 rfl)) (ho.block G p.ar.row.lt (fun e => (p.apart G e).2.2.1 rfl)), hm, Nat.le_trans p.big ho.size, p.g0, p.apart⟩
/-- A word of the row of one's own is written. -/
theorem put {R : Nat} (p : Play w wr A G (some ⟨R, 0, none⟩) n N M f h) (hn : 0 < n) (j : Nat) (s : Int) : Play w (wr.setCell ⟨R, j, none⟩ (.int .u64 s)) A G (some ⟨R, 0, none⟩) n N M f (upd h j s) := by
  refine p.ref ⟨rfl, rfl, rfl, by simp [World.setCell], fun k hk ne => Below.heap_setCell _ _ _ _ (fun e => ne (by rw [e]))⟩ ?_
  rcases p.mine with e | ⟨R', e, hR, hr⟩
  · omega
  · cases e
    exact .inr ⟨R, rfl, hR, hr.set j s⟩
/-- .. and what lies there. -/
theorem at' {b : Option Addr} (p : Play w wr A G b n N M f h) {j : Nat} (hj : j < n) : ∃ R, b = some ⟨R, 0, none⟩ ∧ wr.cell? ⟨R, j, none⟩ = some (.int .u64 (h j)) ∧ wr.frozen? ⟨R, j, none⟩ = false := by
  rcases p.mine with e | ⟨R, e, hR, hr⟩
  · omega
  · exact ⟨R, e, hr.cell hj, hr.frozen j⟩
end Play
end Go.Proofs.YtbpkdihonemogaaGreatDoor
