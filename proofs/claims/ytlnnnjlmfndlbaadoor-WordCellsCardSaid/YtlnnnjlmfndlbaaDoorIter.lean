/- The iterators: slices.Values over words, and package word's own, which tells the cells among them. -/
import Derived.Test.YtlnnnjlmfndlbaaDoorRange
import Derived.Test.YtlnnnjlmfndlbaaDoorBase
import Derived.RangeFuncCalls
import Derived.Shelf.Abstract
import Derived.Shelf.RegionOpen
import Derived.WalkKit
import Derived.OwnWalkIn
import Derived.TacticsInMore
import Derived.LoopNIn
import Derived.LoopIn
namespace Go.Proofs.YtlnnnjlmfndlbaaDoor
open Go Go.RowKit Go.Shelf
attribute [local go_sem] Oper.semAt_some
set_option maxRecDepth 100000

/-- The blocks from lo up to hi lie as they lay. -/
def KeepsIn (lo hi : Nat) (W W' : World) : Prop := W.heap.size ≤ W'.heap.size ∧ ∀ k, lo ≤ k → k < hi → W'.heap[k]? = W.heap[k]?
theorem KeepsIn.refl (lo hi : Nat) (W : World) : KeepsIn lo hi W W := ⟨Nat.le_refl _, fun _ _ _ => rfl⟩
theorem KeepsIn.trans {lo hi : Nat} {A B C : World} (h : KeepsIn lo hi A B) (k : KeepsIn lo hi B C) : KeepsIn lo hi A C :=
  ⟨Nat.le_trans h.1 k.1, fun i h1 h2 => (k.2 i h1 h2).trans (h.2 i h1 h2)⟩
theorem KeepsIn.cell {lo hi : Nat} {A B : World} (h : KeepsIn lo hi A B) {b off : Nat} (h1 : lo ≤ b) (h2 : b < hi) : B.cell? ⟨b, off, none⟩ = A.cell? ⟨b, off, none⟩ := by
  unfold World.cell?; rw [h.2 b h1 h2]
theorem KeepsIn.below {lo hi B : Nat} {W W' : World} (h : Below B W W') (hb : hi ≤ B) : KeepsIn lo hi W W' := ⟨h.size, fun k _ hk => h.block k (by omega)⟩
theorem keepsIn_b {lo hi : Nat} {w : World} (hn : hi ≤ w.heap.size) (W : World) (l : Nat) (o o' : Obj) (hl : w.heap.size ≤ l) (_ : W.heap[l]? = some o) (_ : o.isCells = false) : KeepsIn lo hi W (W.putObj l o') :=
  ⟨by simp, fun k _ hk => World.putObj_heap_other (by omega)⟩

def upto {α : Type} (f : Nat → α) (k : Nat) : List α := (List.range k).map f
theorem upto_succ {α : Type} (f : Nat → α) (k : Nat) : upto f (k + 1) = upto f k ++ [f k] := by simp [upto, List.range_succ]
theorem upto_length {α : Type} (f : Nat → α) (k : Nat) : (upto f k).length = k := by simp [upto]
theorem upto_all (zs : List UInt64) : upto (fun j => zs[j]?.getD 0) zs.length = zs := by
  apply List.ext_getElem
  · simp [upto]
  · intro i h1 h2; simp [upto, h2]
theorem upto_take (zs : List UInt64) {k : Nat} (hk : k ≤ zs.length) : upto (fun j => zs[j]?.getD 0) k = zs.take k := by
  apply List.ext_getElem
  · simp [upto, hk]
  · intro i h1 h2
    have : i < zs.length := by simp [upto] at h1; omega
    simp [upto, this]

set_option maxHeartbeats 2000000 in
theorem values35 (F : Fence) (n : Nat) (h35 : F.fn 35) (hro : F.round = none) (hn : 1 ≤ n) (l Bs lo hi b off cap : Nat) (zs : List UInt64) (hreach : zs.length ≤ 60) (hlo : lo ≤ b) (hhi : b < hi) (w0 : Nat) (J Jx : List UInt64 → World → Prop)
    (hY : ∀ pre x W, J pre W → pre.length < zs.length → YieldAt F (n - 1) Tryd.prog l #[.int .u64 (x.toNat : Int)] W fun e W' =>
      (e = .returned (.bool true) ∧ J (pre ++ [x]) W' ∧ KeepsIn lo hi W W' ∧ KeepsTop w0 W W') ∨ (e = .returned (.bool false) ∧ Jx (pre ++ [x]) W' ∧ KeepsTop w0 W W'))
    (W : World) (hBs : W.cell? ⟨Bs, 0, none⟩ = some (.slice (some ⟨b, off, none⟩) zs.length cap)) (hc : ∀ j, j < zs.length → W.cell? ⟨b, off + j, none⟩ = some (.int .u64 ((zs[j]?.getD 0).toNat : Int))) (h0 : J [] W) :
    CallsIn F n Tryd.prog 35 #[.func (.yield l) #[] #[], .pointer (some ⟨Bs, 0, none⟩)] W fun e W' => (∃ v, e = .returned v) ∧
      ((∃ ys, ys = zs ∧ J ys W') ∨ (∃ pre, pre <+: zs ∧ Jx pre W')) := by
  have hfull := Lib.hid (upto_all zs)
  have htake : Hid (∀ k, k ≤ zs.length → upto (fun j => zs[j]?.getD 0) k <+: zs) := Lib.hid fun k hk => by rw [upto_take zs hk]; exact List.take_prefix _ _
  obtain ⟨f, hf⟩ : ∃ f : Nat → UInt64, f = fun j => zs[j]?.getD 0 := ⟨_, rfl⟩
  have hc' : ∀ j, j < zs.length → W.cell? ⟨b, off + j, none⟩ = some (.int .u64 ((f j).toNat : Int)) := fun j hj => by rw [hf]; exact hc j hj
  rw [← hf] at hfull htake
  obtain ⟨len, hlen⟩ : ∃ len, len = zs.length := ⟨_, rfl⟩
  rw [← hlen] at hY hBs hc' hfull htake hreach
  clear hc hf
  have HL := Lib.hid hlen; clear hlen
  refine callsIn_of_wp Tryd.func35 rfl h35 ?_ hro
  simp only [Tryd.ntmps35, List.size_toArray, List.length_cons, List.length_nil, Nat.reduceAdd, Nat.reduceSub, Array.replicate_succ, Array.replicate_zero, List.push_toArray, List.append_toArray, List.nil_append, List.cons_append]
  gi_wp2
  gi_loopw [7] (fun i wr => ∃ k : Nat, k ≤ len ∧ i = .int .i64 k ∧ J (upto f k) wr ∧ KeepsIn lo hi W wr)
    (fun i _ => len - (intOf i).toNat)
  case atStart => exact ⟨0, Nat.zero_le _, rfl, h0, KeepsIn.refl _ _ _⟩
  case round =>
    obtain ⟨k, hk, rfl, hJs, hnx⟩ := hrel
    by_cases hlt : k < len
    · have hcx : wr.cell? ⟨b, off + k, none⟩ = some (.int .u64 ((f k).toNat : Int)) := (hnx.cell hlo hhi).trans (hc' k hlt)
      obtain ⟨fn, tmps, assign, body, hy, hR⟩ := hY _ (f k) wr hJs (by rw [upto_length]; exact hlt)
      clear hc'
      gi_wp2
      refine hR.mono ?_
      rintro e W3 (⟨rfl, hJ3, hk3, _⟩ | ⟨rfl, hJx3, _⟩)
      · gi_wp2
        go_roundw
        case rel => exact ⟨k + 1, by omega, by simp, by rw [upto_succ]; exact hJ3, hnx.trans hk3⟩
        case measure => simp [intOf]; omega
      · gi_wp2
        refine bodyPost_ret (results_none rfl _ _ _) rfl ?_
        exact ⟨⟨_, rfl⟩, .inr ⟨_, by rw [← upto_succ]; exact htake.out (k + 1) (by omega), hJx3⟩⟩
    · obtain rfl : k = len := by omega
      gi_wp2
      go_end0
      exact ⟨⟨_, rfl⟩, .inl ⟨_, hfull.out, hJs⟩⟩
set_option maxHeartbeats 1000000 in
theorem values35_nil (F : Fence) (n : Nat) (h35 : F.fn 35) (hro : F.round = none) (l Bs : Nat) (J : List UInt64 → World → Prop) (W : World) (hBs : W.cell? ⟨Bs, 0, none⟩ = some (.slice none 0 0)) (h0 : J [] W) :
    CallsIn F n Tryd.prog 35 #[.func (.yield l) #[] #[], .pointer (some ⟨Bs, 0, none⟩)] W fun e W' => (∃ v, e = .returned v) ∧ J [] W' := by
  refine callsIn_of_wp Tryd.func35 rfl h35 ?_ hro
  simp only [Tryd.ntmps35, List.size_toArray, List.length_cons, List.length_nil, Nat.reduceAdd, Nat.reduceSub, Array.replicate_succ, Array.replicate_zero, List.push_toArray, List.append_toArray, List.nil_append, List.cons_append]
  gi_wp2
  gi_loopw [7] (fun i wr => i = .int .i64 0 ∧ J [] wr) (fun _ _ => 0)
  case atStart => exact ⟨rfl, h0⟩
  case round =>
    obtain ⟨rfl, hJs⟩ := hrel
    gi_wp2
    go_end0
    exact ⟨⟨_, rfl⟩, hJs⟩
/-- The slice value holds the words zs, in a block from lo up to hi; or it is nil and there are none. -/
def Words (lo hi : Nat) (W : World) (sv : Value) (zs : List UInt64) : Prop :=
  (sv = .slice none 0 0 ∧ zs = []) ∨ ∃ b off cap, sv = .slice (some ⟨b, off, none⟩) zs.length cap ∧ lo ≤ b ∧ b < hi ∧ ∀ j, j < zs.length → W.cell? ⟨b, off + j, none⟩ = some (.int .u64 ((zs[j]?.getD 0).toNat : Int))
theorem Words.kept {lo hi : Nat} {A B : World} (h : KeepsIn lo hi A B) {sv : Value} {zs : List UInt64} : Words lo hi A sv zs → Words lo hi B sv zs
  | .inl e => .inl e
  | .inr ⟨b, off, cap, e, h1, h2, hc⟩ => .inr ⟨b, off, cap, e, h1, h2, fun j hj => (h.cell h1 h2).trans (hc j hj)⟩
theorem values_seq (F : Fence) (n : Nat) (h35 : F.fn 35) (hro : F.round = none) (hn : 1 ≤ n) (Bs lo hi : Nat) (sv : Value) (zs : List UInt64) (hreach : zs.length ≤ 60) (w : World) (hBs : Bs < w.heap.size) (hhi : hi ≤ w.heap.size)
    (hc : w.cell? ⟨Bs, 0, none⟩ = some sv) (hI : Words lo hi w sv zs) :
    SeqX F n Tryd.prog 35 #[.pointer (some ⟨Bs, 0, none⟩)] (fun x : UInt64 => #[Value.int .u64 (x.toNat : Int)]) (KeepsIn lo hi) (fun ys => ys = zs) (fun pre => pre <+: zs) zs.length w := fun l J Jx W hW _ _ hY h0 => by
  have hc' := (hW.cell (p := ⟨Bs, 0, none⟩) hBs).trans hc
  rcases hI.kept (KeepsIn.below hW hhi) with ⟨rfl, rfl⟩ | ⟨b, off, cap, rfl, h1, h2, hcs⟩
  · exact (values35_nil F n h35 hro l Bs J W hc' h0).mono fun e W' ⟨he, hj⟩ => ⟨he, .inl ⟨_, rfl, hj⟩⟩
  · exact values35 F n h35 hro hn l Bs lo hi b off cap zs hreach h1 h2 _ J Jx hY W hc' hcs h0

def cellOf (x : UInt64) : Option Nat := if x.toNat % 2 = 1 ∧ x.toNat < 8192 then some (x.toNat / 2) else none
def cellsOf (zs : List UInt64) : List Nat := zs.filterMap cellOf
theorem cellsOf_snoc (pre : List UInt64) (x : UInt64) : cellsOf (pre ++ [x]) = cellsOf pre ++ (cellOf x).toList := by
  unfold cellsOf; rw [List.filterMap_append]; cases h : cellOf x <;> simp [h]
theorem cellsOf_length (zs : List UInt64) : (cellsOf zs).length ≤ zs.length := List.length_filterMap_le _ _

theorem OwnFrom.up {β : Type} {B B' : Nat} {I : β → World → Prop} (h : OwnFrom B I) (hb : B ≤ B') : OwnFrom B' I := fun s A A' row hs hg hr => h s A A' row hs hg (fun r e => ⟨Nat.le_trans hb (hr r e).1, (hr r e).2⟩)

theorem roomNone {F : Fence} (hd : F.depth = none) (k : Nat) : F.room k := fun d h => by rw [hd] at h; cases h
theorem roundWide {m m' l' : Nat} {P : Program} {l : Nat} {f : FuncId} {tmps : Array Value} {assign body : Code} {w : World} {R : Ending → World → Prop}
    (h : RoundIn Fence.wide m P l f tmps assign body w R) : RoundIn (Fence.wide.inRound l') m' P l f tmps assign body w R := ⟨h.1, fun c cs _ => h.2 c cs (roomNone rfl _)⟩

set_option maxHeartbeats 4000000 in
theorem cells_seq (n : Nat) (hn : 6 ≤ n) (Bw Bs lo hi : Nat) (sv : Value) (zs : List UInt64) (hreach : zs.length ≤ 60) (w : World)
    (hBw : Bw < w.heap.size) (hBs : Bs < w.heap.size) (hhi : hi ≤ w.heap.size) (hcw : w.cell? ⟨Bw, 0, none⟩ = some (.func (.func 35) #[] #[.pointer (some ⟨Bs, 0, none⟩)])) (hcs : w.cell? ⟨Bs, 0, none⟩ = some sv) (hI : Words lo hi w sv zs) :
    SeqX Fence.wide n Tryd.prog 32 #[.pointer (some ⟨Bw, 0, none⟩)] (fun x : Nat => #[Value.int .i64 (x : Int)]) (KeepsIn lo hi) (fun ys => ys = cellsOf zs) (fun pre => pre <+: cellsOf zs) zs.length w := fun l J Jx W hW hJ hJx hY h0 => by
  have h1 : 1 ≤ n := by omega
  have hcw' := (hW.cell (p := ⟨Bw, 0, none⟩) hBw).trans hcw
  have hbA : Below W.heap.size W (W.alloc (.cells #[.func (.yield l) #[] #[]] 55)) := (Below.refl _ W).alloc (Nat.le_refl _) _
  have hcw2 : (W.alloc (.cells #[.func (.yield l) #[] #[]] 55)).cell? ⟨Bw, 0, none⟩ = some (.func (.func 35) #[] #[.pointer (some ⟨Bs, 0, none⟩)]) := (hbA.cell (p := ⟨Bw, 0, none⟩) (by have := hW.size; simp only; omega)).trans hcw'
  have hcs2 : (W.alloc (.cells #[.func (.yield l) #[] #[]] 55)).cell? ⟨Bs, 0, none⟩ = some sv := ((hbA.cell (p := ⟨Bs, 0, none⟩) (by have := hW.size; simp only; omega)).trans (hW.cell (p := ⟨Bs, 0, none⟩) hBs)).trans hcs
  have hI2 : Words lo hi (W.alloc (.cells #[.func (.yield l) #[] #[]] 55)) sv zs := hI.kept ((KeepsIn.below hW hhi).trans (KeepsIn.below hbA (by have := hW.size; omega)))
  have hyb : (W.alloc (.cells #[.func (.yield l) #[] #[]] 55)).cell? ⟨W.heap.size, 0, none⟩ = some (.func (.yield l) #[] #[]) := by rw [World.cell?_alloc_new]; rfl
  have hsz : hi ≤ W.heap.size := by have := hW.size; omega
  have HCS := Lib.hid hcs2
  have HYB := Lib.hid hyb
  have hBs' : Bs < W.heap.size := by have := hW.size; omega
  clear hcw hcs hI hcw' hcs2 hyb hbA
  refine callsIn_of_wp_marks Tryd.func32 rfl trivial ?_ rfl
  simp only [Tryd.ntmps32, List.size_toArray, List.length_cons, List.length_nil, Nat.reduceAdd, Nat.reduceSub, Array.replicate_succ, Array.replicate_zero, List.push_toArray, List.append_toArray, List.nil_append, List.cons_append]
  gi_wp2
  refine wpIn_rangeX rfl h1 (gf := 35) (lb := #[.pointer (some ⟨Bs, 0, none⟩)]) rfl trivial (enters_of Tryd.func35 (by kernel_rfl) rfl)
    (values_seq Fence.wide (n - 1) trivial rfl (by omega) Bs lo hi sv zs hreach _ (by simp; omega) (by simp; omega) HCS.out hI2) KeepsIn.trans (keepsIn_b (by simp; omega)) (Below.refl _ _) (fun _ => rfl)
    (fun pre W' => J (cellsOf pre) W' ∧ W'.cell? ⟨W.heap.size, 0, none⟩ = some (.func (.yield l) #[] #[]))
    (fun c pre W' => c = .ret ∧ Jx (cellsOf pre) W')
    (OwnFrom.and (fun s A B row hs hg hr => hJ (cellsOf s) A B row hs hg (fun r e => ⟨by have := (hr r e).1; simp at this; omega, (hr r e).2⟩)) (Own.from (fun s A B row hs hg hr => cell_kept hs hg hr) _))
    (fun c => OwnFrom.and (ownFrom_pure _ _) (fun s A B row hs hg hr => hJx (cellsOf s) A B row hs hg (fun r e => ⟨by have := (hr r e).1; simp at this; omega, (hr r e).2⟩)))
    ⟨hJ [] _ _ none h0 (World.grownBy_alloc _ _ _) (fun r e => by cases e), HYB.out⟩
    (fun x => { tmps := #[.func (.yield l) #[] #[], .pointer (some ⟨Bw, 0, none⟩), .pointer (some ⟨W.heap.size, 0, none⟩), .int .u64 (x.toNat : Int), undef, undef, .func (.func 35) #[] #[.pointer (some ⟨Bs, 0, none⟩)], .int .u64 (x.toNat : Int), undef, undef, undef, undef, undef, undef, undef, undef, undef, undef, undef, undef], defers := [] }) ?assign ?body ?done ?stop
  case assign =>
    intro l' x W' K hK
    gi_wp2
    exact hK
  case body =>
    rintro l' pre x W' ⟨hj, hyc⟩ hlen
    have hx : x.toNat < 18446744073709551616 := x.toNat_lt
    by_cases hcx : x.toNat % 2 = 1 ∧ x.toNat < 8192
    · have hco : cellOf x = some (x.toNat / 2) := if_pos hcx
      have hJ2 := hY (cellsOf pre) (x.toNat / 2) W' hj (by have := cellsOf_length pre; omega)
      obtain ⟨fn, tmps, assign, body, hy, hR⟩ := hJ2
      have HI := Lib.hid (isCell_cell x.toNat hcx.2 hcx.1)
      have HC := Lib.hid hco
      clear hcx hco
      generalize x.toNat / 2 = m at *
      gi_wp2_with fail
      refine ⟨trivial, fun h => (by cases h), ?_⟩
      refine (CallsIn.inRound l' (callsIn_wide.2 (HI.out _))).mono ?_
      rintro e w' ⟨rfl, rfl⟩
      gi_wp2
      refine ⟨fun h => (by cases h), ?_⟩
      refine (roundWide hR).mono ?_
      rintro e W3 (⟨rfl, hJ3, hk3, hq3⟩ | ⟨rfl, hJx3, hq3⟩)
      · gi_wp2
        exact ⟨hq3.up (by simp), hk3, by rw [cellsOf_snoc, HC.out]; exact hJ3, hq3.cell (Nat.le_refl _) hyc⟩
      · gi_wp2
        exact ⟨hq3.up (by simp), rfl, by rw [cellsOf_snoc, HC.out]; exact hJx3⟩
    · have hco : cellOf x = none := if_neg hcx
      have HI : Hid (∀ w, Calls Tryd.prog 12 #[.int .u64 (x.toNat : Int)] w fun e w' => e = .returned (.tuple #[.int .i64 0, .bool false]) ∧ w = w') := by
        by_cases hp : x.toNat % 2 = 0
        · exact Lib.hid (isCell_even x.toNat hx hp)
        · exact Lib.hid (isCell_other x.toNat hx (by omega) (by omega))
      have HC := Lib.hid hco
      clear hY hco hcx
      gi_wp2_with fail
      refine ⟨trivial, fun h => (by cases h), ?_⟩
      refine (CallsIn.inRound l' (callsIn_wide.2 (HI.out _))).mono ?_
      rintro e w' ⟨rfl, rfl⟩
      gi_wp2
      refine ⟨fun _ h => (by cases h), ?_⟩
      gi_wp2
      exact ⟨KeepsTop.refl _ _, KeepsIn.refl _ _ _, by rw [cellsOf_snoc, HC.out]; simpa using hj, hyc⟩
  case done =>
    rintro D ys W' hD rfl ⟨hj, _⟩ hK
    gi_wp2
    refine ⟨by simp, .inl ⟨_, _, rfl, run_takeDeferred hK, ?_⟩⟩
    exact ⟨_, results_none rfl _ _ _, ⟨_, rfl⟩, .inl ⟨_, rfl, hJ.putObj _ hj (by simp at hD; omega) hK rfl⟩⟩
  case stop =>
    rintro D c pre W' hD hpre ⟨rfl, hj⟩ hK
    gi_wp2
    refine ⟨by simp, .inl ⟨_, _, rfl, run_takeDeferred hK, ?_⟩⟩
    exact ⟨_, results_none rfl _ _ _, ⟨_, rfl⟩,   .inr ⟨_, hpre.filterMap _, hJx.putObj _ hj (by simp at hD; omega) hK rfl⟩⟩
end Go.Proofs.YtlnnnjlmfndlbaaDoor
