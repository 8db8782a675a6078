/- slices.Clone and slices.Values over words, and package word's Cells: what the answer holds lies in memory of its own. -/
import Derived.Test.YtlnnnjlmfndlbaaDoorIter
import Derived.OwnWalk
import Derived.Lib.ItoaMem
import Derived.WalkSpells
import Derived.Laws.EntriesVeiled
namespace Go.Proofs.YtlnnnjlmfndlbaaDoor
open Go Go.RowKit
set_option maxRecDepth 100000

theorem info23 : (Tryd.prog.info? 23).map (fun i => (i.zero, i.size, i.bytes)) = some (some (.int .u64 0), 1, 8) := by kernel_rfl
def wordsV (zs : List UInt64) : List Value := zs.map fun x => Value.int .u64 (x.toNat : Int)
theorem wordsV_get (zs : List UInt64) (j : Nat) (u : Value) (h : (wordsV zs)[j]? = some u) : j < zs.length ∧ u = .int .u64 ((zs[j]?.getD 0).toNat : Int) := by
  unfold wordsV at h
  rw [List.getElem?_map] at h
  cases hz : zs[j]? with
  | none => simp [hz] at h
  | some x => simp [hz] at h; exact ⟨(List.getElem?_eq_some_iff.1 hz).1, by simp [← h]⟩
theorem Words.of_row {base : Nat} {w : World} {v : Value} {zs : List UInt64} (h : w.ownsRow base 23 1 v zs.length (wordsV zs)) : Words base w.heap.size w v zs := by
  have h' := h
  obtain ⟨_, ⟨rfl, hn⟩ | ⟨g, cap, cur, rfl, hb, hg, _⟩⟩ := h
  · exact .inl ⟨rfl, List.eq_nil_of_length_eq_zero hn⟩
  · refine .inr ⟨g, 0, cap, rfl, hb, (Array.getElem?_eq_some_iff.1 hg).1, fun j hj => ?_⟩
    have := h'.cells rfl j (.int .u64 ((zs[j]?.getD 0).toNat : Int)) (by
      unfold wordsV; rw [List.getElem?_map, List.getElem?_eq_getElem hj]; simp [List.getElem?_eq_getElem hj])
    rw [Lib.add_plain] at this
    exact this
def ClonePost (w : World) (zs : List UInt64) (e : Ending) (w' : World) : Prop := ∃ a len cap, e = .returned (.slice a len cap) ∧ Below w.heap.size w w' ∧ Words w.heap.size w'.heap.size w' (.slice a len cap) zs
theorem clone_nil (w : World) : Calls Tryd.prog 31 #[.slice none 0 0] w (ClonePost w []) := by
  have hq := fun w => Lib.run_eql_slice_nil (P := Tryd.prog) w 39 23 none 0 0 0 0 Tryd.underlying39
  go_enter Tryd.func31, Tryd.ntmps31
  go_wp2
  go_ret
  exact ⟨none, 0, 0, rfl, Below.refl _ _, .inl ⟨rfl, rfl⟩⟩
set_option maxHeartbeats 1000000 in
theorem clone_some (b off cap : Nat) (zs : List UInt64) (hl : zs.length ≤ 60) (w : World) (hb : b < w.heap.size) (hc : ∀ j, j < zs.length → w.cell? ⟨b, off + j, none⟩ = some (.int .u64 ((zs[j]?.getD 0).toNat : Int))) :
    Calls Tryd.prog 31 #[.slice (some ⟨b, off, none⟩) zs.length cap] w (ClonePost w zs) := by
  obtain ⟨i0, hi, hz0, hz1, hz2⟩ := info_parts info23
  have hown : (w.alloc (.cells #[] 23)).ownsRow w.heap.size 23 1 (.slice (some ⟨w.heap.size, 0, none⟩) 0 0) 0 [] := by
    refine ⟨rfl, .inr ⟨w.heap.size, 0, #[], rfl, Nat.le_refl _, World.alloc_heap_new w _, Nat.le_refl _, Nat.zero_le _, rfl, rfl⟩⟩
  have hnews : ∀ j u, (wordsV zs)[j]? = some u → (w.alloc (.cells #[] 23)).cell? ((⟨b, off, none⟩ : Addr).add j) = some u := fun j u h => by
    obtain ⟨hj, rfl⟩ := wordsV_get zs j u h
    rw [Lib.add_plain]
    exact ((((Below.refl _ w).alloc (Nat.le_refl _) _).cell (p := ⟨b, off + j, none⟩) hb)).trans (hc j hj)
  have h1c : ∀ u ∈ wordsV zs, u.oneCell' = true := fun u hu => by
    unfold wordsV at hu; obtain ⟨x, _, rfl⟩ := List.mem_map.1 hu; rfl
  have hlen : (wordsV zs).length = zs.length * 1 := by simp [wordsV]
  have hm : 0 + zs.length ≤ maxLen := by unfold maxLen; omega
  have HO := Lib.hid hown; have HN := Lib.hid hnews; have H1 := Lib.hid h1c; have HL := Lib.hid hlen
  clear hown hnews h1c hlen hc
  have hq := fun w => Lib.run_eql_slice_nil (P := Tryd.prog) w 39 23 (some ⟨b, off, none⟩) zs.length cap 0 0 Tryd.underlying39
  go_enter Tryd.func31, Tryd.ntmps31
  go_wp2_with (at_builtin; refine wpList_append_own _ rfl _ _ 39 rfl w.heap.size 23 i0 (.int .u64 0) 1 8 Tryd.underlying39 hi hz0 hz1 hz2 rfl (by decide) _ _ _ rfl HO.out ⟨b, off, none⟩ zs.length cap (wordsV zs) rfl HL.out HN.out H1.out hm (by omega) (by simp) ?_; intro v' w1 hown' hgrow _)
  have hB : Below w.heap.size w w1 := ((Below.refl _ w).alloc (Nat.le_refl _) _).grown hgrow (by simp) (fun k e => by cases e; exact Nat.le_refl _)
  rw [Nat.zero_add, List.nil_append] at hown'
  have hW := Words.of_row hown'
  obtain ⟨a', n', c', rfl⟩ : ∃ a n c, v' = .slice a n c := by
    obtain ⟨_, ⟨rfl, _⟩ | ⟨g, cap, _, rfl, _⟩⟩ := hown'
    · exact ⟨_, _, _, rfl⟩
    · exact ⟨_, _, _, rfl⟩
  clear hown' hgrow
  go_wp2
  go_ret
  exact ⟨a', n', c', rfl, hB, hW⟩
set_option maxHeartbeats 1000000 in
theorem clone_zero (ad : Addr) (cap : Nat) (w : World) :
    Calls Tryd.prog 31 #[.slice (some ad) 0 cap] w (ClonePost w []) := by
  obtain ⟨i0, hi, hz0, hz1, hz2⟩ := info_parts info23
  have hown : (w.alloc (.cells #[] 23)).ownsRow w.heap.size 23 1 (.slice (some ⟨w.heap.size, 0, none⟩) 0 0) 0 [] := by
    refine ⟨rfl, .inr ⟨w.heap.size, 0, #[], rfl, Nat.le_refl _, World.alloc_heap_new w _, Nat.le_refl _, Nat.zero_le _, rfl, rfl⟩⟩
  have hnews : ∀ j u, (wordsV [])[j]? = some u → (w.alloc (.cells #[] 23)).cell? (ad.add j) = some u := fun j u h => by simp [wordsV] at h
  have h1c : ∀ u ∈ wordsV [], u.oneCell' = true := fun u hu => by
    unfold wordsV at hu; obtain ⟨x, _, rfl⟩ := List.mem_map.1 hu; rfl
  have hlen : (wordsV []).length = 0 * 1 := rfl
  have hm : 0 + 0 ≤ maxLen := Nat.zero_le _
  have HO := Lib.hid hown; have HN := Lib.hid hnews; have H1 := Lib.hid h1c; have HL := Lib.hid hlen
  clear hown hnews h1c hlen
  have hq := fun w => Lib.run_eql_slice_nil (P := Tryd.prog) w 39 23 (some ad) 0 cap 0 0 Tryd.underlying39
  go_enter Tryd.func31, Tryd.ntmps31
  go_wp2_with (at_builtin; refine wpList_append_own _ rfl _ _ 39 rfl w.heap.size 23 i0 (.int .u64 0) 1 8 Tryd.underlying39 hi hz0 hz1 hz2 rfl (by decide) _ _ _ rfl HO.out ad 0 cap (wordsV []) rfl HL.out HN.out H1.out hm (by omega) (by simp) ?_; intro v' w1 hown' hgrow _)
  have hB : Below w.heap.size w w1 := ((Below.refl _ w).alloc (Nat.le_refl _) _).grown hgrow (by simp) (fun k e => by cases e; exact Nat.le_refl _)
  have hW : Words w.heap.size w1.heap.size w1 v' [] := Words.of_row (zs := []) hown'
  obtain ⟨a', n', c', rfl⟩ : ∃ a n c, v' = .slice a n c := by
    obtain ⟨_, ⟨rfl, _⟩ | ⟨g, cap, _, rfl, _⟩⟩ := hown'
    · exact ⟨_, _, _, rfl⟩
    · exact ⟨_, _, _, rfl⟩
  clear hown' hgrow
  go_wp2
  go_ret
  exact ⟨a', n', c', rfl, hB, hW⟩
theorem values30 (a : Option Addr) (len cap : Nat) (w : World) :
    Calls Tryd.prog 30 #[.slice a len cap] w fun e w' => e = .returned (.func (.func 35) #[] #[.pointer (some ⟨w.heap.size, 0, none⟩)]) ∧ w.alloc (.cells #[.slice a len cap] 39) = w' := by
  go_enter Tryd.func30, Tryd.ntmps30
  go_wp2
  go_ret
  exact ⟨rfl, rfl⟩
/-- What Cells hands back, and where what it holds lies. -/
def CellsPost (w : World) (zs : List UInt64) (e : Ending) (w' : World) : Prop :=
  ∃ Bw Bs sv, e = .returned (.func (.func 32) #[] #[.pointer (some ⟨Bw, 0, none⟩)]) ∧ Bw < w'.heap.size ∧ Bs < w'.heap.size ∧ w'.cell? ⟨Bw, 0, none⟩ = some (.func (.func 35) #[] #[.pointer (some ⟨Bs, 0, none⟩)]) ∧
    w'.cell? ⟨Bs, 0, none⟩ = some sv ∧ Words w.heap.size w'.heap.size w' sv zs ∧ Below w.heap.size w w'
theorem Words.wider {lo hi hi' : Nat} {W : World} {sv : Value} {zs : List UInt64} (h : hi ≤ hi') : Words lo hi W sv zs → Words lo hi' W sv zs
  | .inl e => .inl e
  | .inr ⟨b, off, cap, e, h1, h2, hc⟩ => .inr ⟨b, off, cap, e, h1, by omega, hc⟩
theorem cellsFn (v : Value) (zs : List UInt64) (w : World) (H : Hid (Calls Tryd.prog 31 #[v] w (ClonePost w zs))) : Calls Tryd.prog 22 #[v] w (CellsPost w zs) := by
  go_enter Tryd.func22, Tryd.ntmps22
  go_wp2_with fail
  refine H.out.mono ?_
  rintro e W1 ⟨a, len, cap, rfl, hB, hW⟩
  go_wp2_with fail
  refine (values30 a len cap _).mono ?_
  rintro e W2 ⟨rfl, rfl⟩
  go_wp2_with fail
  go_ret
  have hz := hB.size
  refine ⟨W1.heap.size + 1, W1.heap.size, .slice a len cap, rfl, by simp, by simp; omega, ?_, ?_, ?_, ?_⟩
  · have := World.cell?_alloc_new (W1.alloc (.cells #[.slice a len cap] 39)) #[.func (.func 35) #[] #[.pointer (some ⟨W1.heap.size, 0, none⟩)]] 52 0
    rw [World.size_alloc] at this
    exact this
  · exact (((Below.refl (W1.heap.size + 1) (W1.alloc (.cells #[.slice a len cap] 39))).alloc (by simp) _).cell (p := ⟨W1.heap.size, 0, none⟩) (by simp)).trans (World.cell?_alloc_new W1 _ _ 0)
  · exact (hW.kept ((KeepsIn.below ((Below.refl _ W1).alloc (Nat.le_refl _) _) (Nat.le_refl _)).trans (KeepsIn.below ((Below.refl _ _).alloc (Nat.le_refl _) _) (by simp)))).wider (by simp; omega)
  · exact (hB.alloc hz _).alloc (by simp; omega) _
end Go.Proofs.YtlnnnjlmfndlbaaDoor
