/- Package arena's New and All, and the document's Copy and Same, for rows of at most 20000 words; the laws' own first look (awake). -/
import Derived.Test.YthdcapkchjamoaaGreatDoorArena
import Derived.OwnWalk
import Derived.WalkSpells
import Derived.Deep.DrawnRows
import Derived.RegionTactic
namespace Go.Proofs.YthdcapkchjamoaaGreatDoor
open Go Go.RowKit
set_option maxRecDepth 100000

/-- What a slice value of words holds, in a world. -/
def WordsAt (w : World) (a : Option Addr) (n : Nat) (f : Nat → Int) : Prop :=
  n = 0 ∨ ∃ b off, a = some ⟨b, off, none⟩ ∧ b < w.heap.size ∧ ∀ j, j < n → w.cell? ⟨b, off + j, none⟩ = some (.int .u64 (f j))
namespace WordsAt
variable {w w' : World} {a : Option Addr} {n : Nat} {f g : Nat → Int}
theorem below (h : WordsAt w a n f) (hb : Below w.heap.size w w') : WordsAt w' a n f := by
  rcases h with h | ⟨b, off, h1, h2, h3⟩
  · exact .inl h
  · exact .inr ⟨b, off, h1, by have := hb.size; omega, fun j hj => (hb.cell (p := ⟨b, off + j, none⟩) h2).trans (h3 j hj)⟩
theorem at' (h : WordsAt w a n f) {k : Nat} (hk : k < n) : ∃ b off, a = some ⟨b, off, none⟩ ∧ w.cell? ⟨b, off + k, none⟩ = some (.int .u64 (f k)) := by
  rcases h with h | ⟨b, off, h1, h2, h3⟩
  · omega
  · exact ⟨b, off, h1, h3 k hk⟩
theorem congr (h : WordsAt w a n f) (e : ∀ j, j < n → f j = g j) : WordsAt w a n g := by
  rcases h with h | ⟨b, off, h1, h2, h3⟩
  · exact .inl h
  · exact .inr ⟨b, off, h1, h2, fun j hj => by rw [h3 j hj, e j hj]⟩
end WordsAt
theorem RowAt.words {w : World} {R : Nat} {t : TypeId} {n : Nat} {f : Nat → Int} (h : RowAt w R t n f) : WordsAt w (some ⟨R, 0, none⟩) n f :=
  .inr ⟨R, 0, rfl, h.lt, fun j hj => by rw [Nat.zero_add]; exact h.cell hj⟩
theorem infoWord : (Tryz.prog.info? 26).map (fun i => (i.zero, i.size, i.bytes)) = some (some (.int .u64 0), 1, 8) := by kernel_rfl
theorem infoCell : (Tryz.prog.info? 82).map (fun i => (i.zero, i.size, i.bytes)) = some (some (.agg #[.int .u64 0]), 1, 8) := by kernel_rfl
theorem make_words (n : Nat) (hn : n ≤ 20000) (w : World) : (Instr.makeSlice 24 (.int .i64 (n : Int)) (.int .i64 (n : Int))).run Tryz.prog w = .ok (.slice (some ⟨w.heap.size, 0, none⟩) n n) (w.alloc (.cells (madeCells #[.int .u64 0] n) 26)) :=
  run_make_row' 24 26 (.int .u64 0) 8 Tryz.underlying24 infoWord rfl .i64 .i64 n (by omega) (by omega) w
theorem make_cells (n : Nat) (hn : n ≤ 20000) (w : World) : (Instr.makeSlice 83 (.int .i64 (n : Int)) (.int .i64 (n : Int))).run Tryz.prog w = .ok (.slice (some ⟨w.heap.size, 0, none⟩) n n) (w.alloc (.cells (madeCells #[.int .u64 0] n) 82)) := by
  obtain ⟨i, hi, hzz⟩ := Option.map_eq_some_iff.1 infoCell
  simp only [Prod.mk.injEq] at hzz
  obtain ⟨hz, hs, hb⟩ := hzz
  have hr := run_make (P := Tryz.prog) w 83 82 i (.agg #[.int .u64 0]) Tryz.underlying83 hi hz .i64 .i64 n n (by omega) (Int.le_refl _) (by rw [hb]; omega) (by omega)
  simp only [Int.toNat_natCast, hs, Nat.mul_one] at hr
  exact hr

/-- How far New is. -/
structure NewBox (w wr : World) (n : Nat) (f : Nat → Int) (k : Nat) : Prop where
  old : Below w.heap.size w wr
  ar : ArenaAt wr (w.heap.size + 1) w.heap.size n (fun j => if j < k then f j else 0)
/-- What New answers. -/
def NewPost (w : World) (n : Nat) (f : Nat → Int) (e : Ending) (w' : World) : Prop :=
  e = .returned (.pointer (some ⟨w.heap.size + 1, 0, none⟩)) ∧ ArenaAt w' (w.heap.size + 1) w.heap.size n f ∧ Below w.heap.size w w'
theorem NewBox.start (w : World) (n : Nat) (f : Nat → Int) (hn : n ≤ 20000) :
    NewBox w ((w.alloc (.cells (madeCells #[.int .u64 0] n) 82)).alloc (.cells #[.slice (some ⟨w.heap.size, 0, none⟩) n n] 85)) n f 0 := by
  refine ⟨below_on (below_new _ _) _, by omega, ?_, ((RowAt.made w n _).below (below_new _ _)).congr (fun j _ => rfl), by omega⟩
  have := newBlock (w.alloc (.cells (madeCells #[.int .u64 0] n) 82)) (.cells #[.slice (some ⟨w.heap.size, 0, none⟩) n n] 85)
  simpa using this
theorem NewBox.next {w wr : World} {n : Nat} {f : Nat → Int} {k : Nat} (h : NewBox w wr n f k) : NewBox w (wr.setCell ⟨w.heap.size, k, none⟩ (.int .u64 (f k))) n f (k + 1) :=
  ⟨h.old.setCell (p := ⟨w.heap.size, k, none⟩) (Nat.le_refl _) _, (h.ar.set k (f k)).congr (fun j _ => by
    unfold upd
    by_cases e : j = k
    · subst e; rw [if_pos rfl, if_pos (by omega)]
    · rw [if_neg e]
      show (if j < k then f j else 0) = _
      by_cases e2 : j < k
      · rw [if_pos e2, if_pos (by omega)]
      · rw [if_neg e2, if_neg (by omega)])⟩
set_option maxHeartbeats 1600000 in
theorem ArNew_c (a : Option Addr) (n cap : Nat) (f : Nat → Int) (hn : n ≤ 20000) (w : World) (hr : WordsAt w a n f) :
    Calls Tryz.prog 41 #[.slice a n cap] w (NewPost w n f) := by
  have HR := Lib.hid hr
  have HS := Lib.hid (NewBox.start w n f hn)
  have hmk := make_cells n hn
  clear hr
  go_enter Tryz.func41, Tryz.ntmps41
  go_wp2_with fail
  clear hmk
  go_loopw [13] (fun vi wr => ∃ k : Nat, vi = .int .i64 k ∧ k ≤ n ∧ Hid (NewBox w wr n f k)) (fun vi _ => n - (intOf vi).toNat)
  case atStart => exact ⟨0, rfl, Nat.zero_le _, HS⟩
  case round =>
    clear HS
    obtain ⟨k, rfl, hk, HB⟩ := hrel
    by_cases hlt : k < n
    · obtain ⟨b, off, rfl, hc⟩ := (HR.out.below HB.out.old).at' hlt
      have HN := Lib.hid HB.out.next
      have HX := Lib.hid (Store_in HB.out.ar k hlt (f k))
      generalize f k = x at hc HX HN
      clear HB
      go_wp2_with fail
      refine HX.out.mono ?_
      rintro e w' ⟨rfl, rfl⟩
      clear HX hc
      go_wp2_with fail
      go_roundw
      case rel => exact ⟨k + 1, by go_num, by omega, HN⟩
      case measure => simp [intOf]; omega
    · obtain rfl : k = n := by omega
      go_wp2_with fail
      go_ret
      exact ⟨rfl, HB.out.ar.congr (fun j hj => by rw [if_pos hj]), HB.out.old⟩
/-- What All answers. -/
def ArAllPost (w : World) (n : Nat) (f : Nat → Int) (e : Ending) (w' : World) : Prop :=
  e = .returned (.slice (some ⟨w.heap.size, 0, none⟩) n n) ∧ RowAt w' w.heap.size 26 n f ∧ Below w.heap.size w w'
/-- How far All is. -/
structure ArAllBox (w wr : World) (n : Nat) (f : Nat → Int) (k : Nat) : Prop where
  old : Below w.heap.size w wr
  row : RowAt wr w.heap.size 26 n (fun j => if j < k then f j else 0)
theorem ArAllBox.next {w wr : World} {n : Nat} {f : Nat → Int} {k : Nat} (h : ArAllBox w wr n f k) : ArAllBox w (wr.setCell ⟨w.heap.size, k, none⟩ (.int .u64 (f k))) n f (k + 1) :=
  ⟨h.old.setCell (p := ⟨w.heap.size, k, none⟩) (Nat.le_refl _) _, (h.row.set k (f k)).congr (fun j _ => by
    unfold upd
    by_cases e : j = k
    · subst e; rw [if_pos rfl, if_pos (by omega)]
    · rw [if_neg e]
      show (if j < k then f j else 0) = _
      by_cases e2 : j < k
      · rw [if_pos e2, if_pos (by omega)]
      · rw [if_neg e2, if_neg (by omega)])⟩
theorem All_nil (w : World) : Calls Tryz.prog 32 #[.pointer none] w fun e w' => e = .returned (.slice (some ⟨w.heap.size, 0, none⟩) 0 0) ∧ Below w.heap.size w w' := by
  have hmk : ∀ w, (Instr.makeSlice 24 (.int .i64 0) (.int .i64 0)).run Tryz.prog w = .ok (.slice (some ⟨w.heap.size, 0, none⟩) 0 0) (w.alloc (.cells (madeCells #[.int .u64 0] 0) 26)) := make_words 0 (by omega)
  go_enter Tryz.func32, Tryz.ntmps32
  go_wp2_with fail
  refine (Len_nil _).mono ?_
  rintro e w' ⟨rfl, rfl⟩
  go_wp2_with fail
  clear hmk
  go_loopw [10] (fun vi wr => vi = .int .i64 0 ∧ Below w.heap.size w wr) (fun _ _ => 0)
  case atStart => exact ⟨rfl, below_new _ _⟩
  case round =>
    obtain ⟨rfl, HB⟩ := hrel
    go_wp2_with fail
    go_ret
    exact ⟨rfl, HB⟩
set_option maxHeartbeats 1600000 in
theorem All_c {A G n : Nat} {f : Nat → Int} {w : World} (hA : ArenaAt w A G n f) (hn : n ≤ 20000) :
    Calls Tryz.prog 32 #[.pointer (some ⟨A, 0, none⟩)] w (ArAllPost w n f) := by
  have HL := Lib.hid (Len_c hA)
  have HA := Lib.hid hA
  have hmk := make_words n hn
  have HS : Hid (ArAllBox w (w.alloc (.cells (madeCells #[.int .u64 0] n) 26)) n f 0) := Lib.hid ⟨below_new _ _, (RowAt.made w n _).congr (fun j _ => rfl)⟩
  clear hA
  go_enter Tryz.func32, Tryz.ntmps32
  go_wp2_with fail
  refine HL.out.mono ?_
  rintro e w' ⟨rfl, rfl⟩
  go_wp2_with fail
  clear hmk
  go_loopw [10] (fun vi wr => ∃ k : Nat, vi = .int .i64 k ∧ k ≤ n ∧ Hid (ArAllBox w wr n f k)) (fun vi _ => n - (intOf vi).toNat)
  case atStart => exact ⟨0, rfl, Nat.zero_le _, HS⟩
  case round =>
    clear HS HL
    obtain ⟨k, rfl, hk, HB⟩ := hrel
    by_cases hlt : k < n
    · have HN := Lib.hid HB.out.next
      have HX := Lib.hid (Load_in (HA.out.below HB.out.old) k hlt)
      have hc := HB.out.row.cell hlt
      have hf := HB.out.row.frozen k
      generalize f k = x at HX HN
      clear HB
      go_wp2_with fail
      refine HX.out.mono ?_
      rintro e w' ⟨rfl, rfl⟩
      go_wp2_with fail
      clear HX hc hf
      go_roundw
      case rel => exact ⟨k + 1, by go_num, by omega, HN⟩
      case measure => simp [intOf]; omega
    · obtain rfl : k = n := by omega
      go_wp2_with fail
      go_ret
      exact ⟨rfl, HB.out.row.congr (fun j hj => by rw [if_pos hj]), HB.out.old⟩
theorem Same_c (a1 a2 : Option Addr) (n c1 c2 : Nat) (f : Nat → Int) (hn : n ≤ 20000) (w : World) (h1 : WordsAt w a1 n f) (h2 : WordsAt w a2 n f) :
    Calls Tryz.prog 31 #[.slice a1 n c1, .slice a2 n c2] w fun e w' => e = .returned (.bool true) ∧ Below w.heap.size w w' := by
  have HR := Lib.hid h1; have HR2 := Lib.hid h2; clear h1 h2
  go_enter Tryz.func31, Tryz.ntmps31
  go_wp2
  go_loopw [5] (fun vi wr => ∃ k : Nat, vi = .int .i64 k ∧ k ≤ n ∧ Below w.heap.size w wr) (fun vi _ => n - (intOf vi).toNat)
  case atStart => exact ⟨0, rfl, Nat.zero_le _, Below.refl _ _⟩
  case round =>
    obtain ⟨k, rfl, hk, hb⟩ := hrel
    by_cases hlt : k < n
    · obtain ⟨b, off, rfl, hc⟩ := (HR.out.below hb).at' hlt
      obtain ⟨b2, off2, rfl, hc2⟩ := (HR2.out.below hb).at' hlt
      generalize f k = x at hc hc2
      go_wp2
      go_region
      all_goals
        go_wp2
        go_roundw
        case rel => exact ⟨k + 1, by go_num, by omega, by first | exact hb.drew | exact hb.drew.drew | exact hb⟩
        case measure => simp [intOf]; omega
    · obtain rfl : k = n := by omega
      go_wp2
      go_ret
      exact ⟨rfl, hb⟩
def wordsV (n : Nat) (f : Nat → Int) : List Value := (List.range n).map fun j => Value.int .u64 (f j)
theorem wordsV_get {n : Nat} {f : Nat → Int} {j : Nat} {u : Value} (h : (wordsV n f)[j]? = some u) : j < n ∧ u = .int .u64 (f j) := by
  unfold wordsV at h
  rw [List.getElem?_map] at h
  by_cases hj : j < n
  · rw [List.getElem?_range hj] at h; simp at h; exact ⟨hj, h.symm⟩
  · rw [List.getElem?_eq_none (by simp; omega)] at h; simp at h
/-- A slice of words in a block of the call's own. -/
def MineAt (base : Nat) (w : World) (a : Option Addr) (n : Nat) (f : Nat → Int) : Prop := n = 0 ∨ ∃ R, a = some ⟨R, 0, none⟩ ∧ base ≤ R ∧ RowAt w R 26 n f
theorem MineAt.words {base : Nat} {w : World} {a : Option Addr} {n : Nat} {f : Nat → Int} (h : MineAt base w a n f) : WordsAt w a n f := by
  rcases h with h | ⟨R, rfl, _, h⟩
  · exact .inl h
  · exact h.words
theorem MineAt.below {base : Nat} {w w' : World} {a : Option Addr} {n : Nat} {f : Nat → Int} (h : MineAt base w a n f) (hb : Below w.heap.size w w') : MineAt base w' a n f := by
  rcases h with h | ⟨R, rfl, hR, h⟩
  · exact .inl h
  · exact .inr ⟨R, rfl, hR, h.below hb⟩
theorem MineAt.mono {base base' : Nat} {w : World} {a : Option Addr} {n : Nat} {f : Nat → Int} (h : MineAt base w a n f) (hb : base' ≤ base) : MineAt base' w a n f := by
  rcases h with h | ⟨R, rfl, hR, h⟩
  · exact .inl h
  · exact .inr ⟨R, rfl, by omega, h⟩
theorem MineAt.own {base : Nat} {w : World} {v : Value} {n : Nat} {f : Nat → Int} (h : w.ownsRow base 26 1 v n (wordsV n f)) : ∃ a cap, v = .slice a n cap ∧ MineAt base w a n f ∧ ∀ R, a = some ⟨R, 0, none⟩ → base ≤ R ∧ R < w.heap.size := by
  have h' := h
  obtain ⟨_, ⟨rfl, hn⟩ | ⟨g, cap, cur, rfl, hb, hg, _⟩⟩ := h
  · subst hn; exact ⟨none, 0, rfl, .inl rfl, fun R e => by cases e⟩
  · refine ⟨_, cap, rfl, ?_, fun R e => by cases e; exact ⟨hb, (Array.getElem?_eq_some_iff.1 hg).1⟩⟩
    cases n with
    | zero => exact .inl rfl
    | succ n =>
      have hc : ∀ j, j < n + 1 → cur[j]? = some (.int .u64 (f j)) := fun j hj => by
        have := h'.cells rfl j (.int .u64 (f j)) (by unfold wordsV; rw [List.getElem?_map, List.getElem?_range hj]; rfl)
        rw [Addr.add_lit, Nat.zero_add] at this
        simpa [World.cell?, hg] using this
      have hsz : n < cur.size := (Array.getElem?_eq_some_iff.1 (hc n (by omega))).1
      exact .inr ⟨g, rfl, hb, cur, hg, by omega, hc⟩
def CopyPost (w : World) (n : Nat) (f : Nat → Int) (e : Ending) (w' : World) : Prop := ∃ a cap, e = .returned (.slice a n cap) ∧ Below w.heap.size w w' ∧ MineAt w.heap.size w' a n f ∧ ∀ R, a = some ⟨R, 0, none⟩ → w.heap.size ≤ R ∧ R < w'.heap.size
set_option maxHeartbeats 1000000 in
theorem Copy_some (ad : Addr) (n cap : Nat) (f : Nat → Int) (hn : n ≤ 20000) (w : World) (hr : WordsAt w (some ad) n f) :
    Calls Tryz.prog 23 #[.slice (some ad) n cap] w (CopyPost w n f) := by
  obtain ⟨i0, hi, hz0, hz1, hz2⟩ := info_parts infoWord
  have hown : (w.alloc (.cells #[] 26)).ownsRow w.heap.size 26 1 (.slice (some ⟨w.heap.size, 0, none⟩) 0 0) 0 [] := by
    refine ⟨rfl, .inr ⟨w.heap.size, 0, #[], rfl, Nat.le_refl _, newBlock w _, Nat.le_refl _, Nat.zero_le _, rfl, rfl⟩⟩
  have hnews : ∀ j u, (wordsV n f)[j]? = some u → (w.alloc (.cells #[] 26)).cell? (ad.add j) = some u := fun j u h => by
    obtain ⟨hj, rfl⟩ := wordsV_get h
    obtain ⟨b, off, hb, hc⟩ := (hr.below (below_new w (.cells #[] 26))).at' hj
    simp only [Option.some.injEq] at hb
    subst hb
    rw [Addr.add_lit]
    exact hc
  have h1c : ∀ u ∈ wordsV n f, u.oneCell' = true := fun u hu => by
    unfold wordsV at hu; obtain ⟨x, _, rfl⟩ := List.mem_map.1 hu; rfl
  have hlen : (wordsV n f).length = n * 1 := by simp [wordsV]
  have hm : 0 + n ≤ maxLen := by unfold maxLen; omega
  have HO := Lib.hid hown; have HN := Lib.hid hnews; have H1 := Lib.hid h1c; have HL := Lib.hid hlen
  clear hown hnews h1c hlen hr
  go_enter Tryz.func23, Tryz.ntmps23
  go_wp2_with (at_builtin; refine wpList_append_own _ rfl _ _ 24 rfl w.heap.size 26 i0 (.int .u64 0) 1 8 Tryz.underlying24 hi hz0 hz1 hz2 rfl (by decide) _ _ _ rfl HO.out ad n cap (wordsV n f) rfl HL.out HN.out H1.out hm (by omega) (by simp) ?_; intro v' w1 hown' hgrow _)
  have hB : Below w.heap.size w w1 := ((Below.refl _ w).alloc (Nat.le_refl _) _).grown hgrow (by simp) (fun k e => by cases e; exact Nat.le_refl _)
  rw [Nat.zero_add, List.nil_append] at hown'
  obtain ⟨a', c', rfl, hW, hA⟩ := MineAt.own hown'
  clear hown' hgrow
  go_wp2
  go_ret
  exact ⟨a', c', rfl, hB, hW, hA⟩
theorem Copy_nil (f : Nat → Int) (w : World) : Calls Tryz.prog 23 #[.slice none 0 0] w (CopyPost w 0 f) := by
  have HB := Lib.hid (below_new w (.cells #[] 26))
  go_enter Tryz.func23, Tryz.ntmps23
  go_wp2_with fail
  go_ret
  exact ⟨_, 0, rfl, HB.out, .inl rfl, fun R e => by cases e; exact ⟨Nat.le_refl _, by simp⟩⟩
theorem Copy_c (a : Option Addr) (n cap : Nat) (f : Nat → Int) (hn : n ≤ 20000) (w : World) (hr : WordsAt w a n f) (ha : a = none → n = 0 ∧ cap = 0) :
    Calls Tryz.prog 23 #[.slice a n cap] w (CopyPost w n f) := by
  cases a with
  | none => obtain ⟨rfl, rfl⟩ := ha rfl; exact Copy_nil f w
  | some ad => exact Copy_some ad n cap f hn w hr
end Go.Proofs.YthdcapkchjamoaaGreatDoor
