/- Package op's iterators: numbers, which tells the numbers that an operation has, each with what it is, and Regs, which tells its registers. -/
import Derived.Test.YthlpmkjhiifibaaDoorRangeL
import Derived.Test.YthlpmkjhiifibaaDoorOpBase
import Derived.RangeFuncCalls
import Derived.Shelf.Abstract
import Derived.Shelf.RegionOpen
import Derived.WalkKit
import Derived.OwnWalkIn
import Derived.TacticsInMore
import Derived.LoopNIn
import Derived.LoopIn
import Derived.Lib.OthersKept
namespace Go.Proofs.YthlpmkjhiifibaaDoor
open Go Go.RowKit Go.Shelf
attribute [local go_sem] Oper.semAt_some
set_option maxRecDepth 100000

/-- The numbers that an operation has, each with its letter. -/
def numsH (h : List UInt8) (a b c : Int) : List (Int × Int) := (List.range h.length).map fun i => (((h.getD i 0).toNat : Int), numF a b c i)
def nums (k a b c : Int) : List (Int × Int) := numsH (hsL k.toNat) a b c
theorem no_nat {k : Int} (h : ¬ okK k) : k.toNat = 0 ∨ 12 ≤ k.toNat := by unfold okK at h; omega
theorem hsL_out {m : Nat} (h : m = 0 ∨ 12 ≤ m) : hsL m = [] := by
  unfold hsL
  split <;> first | rfl | omega
theorem nmL_out {m : Nat} (h : m = 0 ∨ 12 ≤ m) : nmL m = [] := by
  unfold nmL
  split <;> first | rfl | omega
theorem nums_no {k : Int} (h : ¬ okK k) (a b c : Int) : nums k a b c = [] := by
  unfold nums; rw [hsL_out (no_nat h)]; rfl
theorem hsL_short (m : Nat) : (hsL m).length ≤ 3 := by
  unfold hsL
  split <;> decide
theorem hsL_ascii (m : Nat) : ∀ x ∈ hsL m, x.toNat < 128 := by
  unfold hsL
  split <;> decide
theorem numsH_take (h : List UInt8) (a b c : Int) {p : Nat} (hp : p < h.length) : (numsH h a b c).take (p + 1) = (numsH h a b c).take p ++ [(((h.getD p 0).toNat : Int), numF a b c p)] := by
  have hl : p < (numsH h a b c).length := by simpa [numsH] using hp
  rw [List.take_succ_eq_append_getElem hl]
  simp [numsH]
theorem numsH_length (h : List UInt8) (a b c : Int) : (numsH h a b c).length = h.length := by simp [numsH]
def enc2 (x : Int × Int) : Array Value := #[Value.int .i32 x.1, Value.int .i64 x.2]

theorem opNumbers_c (k a b c : Int) (w : World) : Calls Tryd.prog 44 #[.agg #[.int .i64 k, .int .i64 a, .int .i64 b, .int .i64 c]] w fun e w' =>
    e = .returned (.func (.func 54) #[] #[.pointer (some ⟨w.heap.size, 0, none⟩)]) ∧ w' = w.alloc (.cells #[.int .i64 k, .int .i64 a, .int .i64 b, .int .i64 c] 35) := by
  go_enter Tryd.func44, Tryd.ntmps44
  go_wp2
  go_ret
  exact ⟨rfl, rfl⟩
theorem seq33_no (n l B : Nat) (k a b c : Int) (hk : ¬ okK k) (J : List (Int × Int) → World → Prop) (W : World) (hX : Arr4 W B 35 k a b c) (h0 : J [] W) :
    CallsIn Fence.wide n Tryd.prog 54 #[.func (.yield l) #[] #[], .pointer (some ⟨B, 0, none⟩)] W fun e W' => (∃ v, e = .returned v) ∧ J [] W' := by
  have HK := Lib.hid (isKind_no k hk)
  obtain ⟨x0, x1, x2, x3, xf⟩ := hX.cells
  clear hk hX
  refine callsIn_of_wp Tryd.func54 rfl trivial ?_ rfl
  simp only [Tryd.ntmps54, List.size_toArray, List.length_cons, List.length_nil, Nat.reduceAdd, Nat.reduceSub, Array.replicate_succ, Array.replicate_zero, List.push_toArray, List.append_toArray, List.nil_append, List.cons_append]
  gi_wp2_with fail
  refine ⟨trivial, fun h => (by cases h), ?_⟩
  refine (callsIn_wide.2 (HK.out _)).mono ?_
  rintro e w' ⟨rfl, rfl⟩
  gi_wp2
  refine bodyPost_ret (results_none rfl _ _ _) rfl ?_
  exact ⟨⟨_, rfl⟩, h0⟩
/-- What the iterator has laid down of its own: the three numbers, and how far it is in the letters. -/
structure Mine (A : Nat) (h : ByteArray) (a b c : Int) (p : Nat) (W : World) : Prop where
  arr : W.heap[A]? = some (.cells #[.int .i64 a, .int .i64 b, .int .i64 c] 95 (0, 0))
  at_ : W.heap[A + 1]? = some (.stringIter h p)
theorem Mine.all {A : Nat} {h : ByteArray} {a b c : Int} {p : Nat} {W : World} (hM : Mine A h a b c p W) (i : Nat) (hi : i < 3) : W.cell? ⟨A, i, none⟩ = some (.int .i64 (numF a b c i)) := by
  have := hM.arr
  obtain rfl | rfl | rfl : i = 0 ∨ i = 1 ∨ i = 2 := by omega
  all_goals simp [World.cell?, this, numF]
set_option maxHeartbeats 4000000 in
theorem seq33_yes (e₀ : TypeId) (he : 95 ≠ e₀) (n l B m : Nat) (h1 : 1 ≤ m) (h2 : m ≤ 11) (a b c : Int) (J Jx : List (Int × Int) → World → Prop) (W : World) (hX : Arr4 W B 35 m a b c) (hR : RowsAt W) (hJ : OwnFrom W.heap.size J)
    (hY : ∀ pre x W1, J pre W1 → pre ++ [x] <+: numsH (hsL m) a b c → YieldAt Fence.wide (n - 1) Tryd.prog l (enc2 x) W1 fun e W' =>
      (e = .returned (.bool true) ∧ J (pre ++ [x]) W' ∧ KeepsTop e₀ W.heap.size W1 W') ∨ (e = .returned (.bool false) ∧ Jx (pre ++ [x]) W' ∧ KeepsTop e₀ W.heap.size W1 W'))
    (h0 : J [] W) :
    CallsIn Fence.wide n Tryd.prog 54 #[.func (.yield l) #[] #[], .pointer (some ⟨B, 0, none⟩)] W fun e W' => (∃ v, e = .returned v) ∧
      (J (numsH (hsL m) a b c) W' ∨ ∃ pre, pre <+: numsH (hsL m) a b c ∧ Jx pre W') := by
  have HK := Lib.hid (isKind_yes m h1 h2)
  obtain ⟨x0, x1, x2, x3, xf⟩ := hX.cells
  have hc := hR.has m (by omega)
  have hlt : B < W.heap.size := hX.lt
  have hgl : 1 < W.heap.size := lt_of_cell hc
  have hlen := hsL_short m
  have HA := Lib.hid (hsL_ascii m)
  clear hX hR
  generalize hsL m = hs at *
  have HF : Hid ((numsH hs a b c).take hs.length = numsH hs a b c) := Lib.hid (List.take_of_length_le (by rw [numsH_length]; exact Nat.le_refl _))
  have HT : Hid (∀ p, p < hs.length → (numsH hs a b c).take (p + 1) = (numsH hs a b c).take p ++ [(((hs.getD p 0).toNat : Int), numF a b c p)]) := Lib.hid (fun p hp => numsH_take hs a b c hp)
  have HP : Hid (∀ p, (numsH hs a b c).take p <+: numsH hs a b c) := Lib.hid (fun p => List.take_prefix _ _)
  generalize numsH hs a b c = zs at *
  have HO := Lib.hid hJ
  have HY := Lib.hid hY
  clear hJ hY
  have h0' := Lib.hid h0; clear h0
  refine callsIn_of_wp Tryd.func54 rfl trivial ?_ rfl
  simp only [Tryd.ntmps54, List.size_toArray, List.length_cons, List.length_nil, Nat.reduceAdd, Nat.reduceSub, Array.replicate_succ, Array.replicate_zero, List.push_toArray, List.append_toArray, List.nil_append, List.cons_append]
  gi_wp2_with fail
  refine ⟨trivial, fun h => (by cases h), ?_⟩
  refine (callsIn_wide.2 (HK.out _)).mono ?_
  rintro e w' ⟨rfl, rfl⟩
  clear HK
  gi_wp2
  gi_loopw [23] (fun _ wr => ∃ p : Nat, p ≤ hs.length ∧ Hid (J (zs.take p) wr) ∧ Hid (Mine W.heap.size ⟨hs.toArray⟩ a b c p wr)) (fun _ wr => hs.length - wr.iterPos (W.heap.size + 1))
  case atStart =>
    refine ⟨0, Nat.zero_le _, Lib.hid ?_, Lib.hid ⟨?_, ?_⟩⟩
    · rw [List.take_zero]
      exact HO.out.alloc _ (HO.out.alloc _ h0'.out)
    · exact (Below.heap_alloc _ _ _ (by simp)).trans (World.alloc_heap_new W _)
    · have := World.alloc_heap_new (W.alloc (.cells #[.int .i64 a, .int .i64 b, .int .i64 c] 95)) (.stringIter ⟨hs.toArray⟩ 0)
      rw [World.size_alloc] at this
      exact this
  case round =>
    obtain ⟨p, hp, HJs, HM⟩ := hrel
    have hit := HM.out.at_
    have hmu : wr.iterPos (W.heap.size + 1) = p := by simp [World.iterPos, hit]
    by_cases hlt2 : p < hs.length
    · have hsz : p < (⟨hs.toArray⟩ : ByteArray).size := by simpa [ByteArray.size] using hlt2
      have hget : (⟨hs.toArray⟩ : ByteArray)[p]'hsz = hs.getD p 0 := by
        show hs.toArray[p]'_ = _
        simp [List.getD, hlt2]
      have hasc : ((⟨hs.toArray⟩ : ByteArray)[p]'hsz).toNat < 128 := by
        rw [hget]; exact HA.out _ (by simp [List.getD, hlt2])
      have hnx := fun ty => Lib.run_next_ascii_at (P := Tryd.prog) wr (W.heap.size + 1) ⟨hs.toArray⟩ p ty hit hsz hasc
      rw [hget] at hnx
      have hnum := HM.out.all p (by omega)
      have hlt3 : W.heap.size + 1 < wr.heap.size := (Array.getElem?_eq_some_iff.1 hit).1
      have HM2 : Hid (Mine W.heap.size ⟨hs.toArray⟩ a b c (p + 1) (wr.iterAt (W.heap.size + 1) ⟨hs.toArray⟩ (p + 1))) := Lib.hid ⟨(Lib.iterAt_other wr _ _ _ _ (by simp)).trans HM.out.arr, Lib.iterAt_heap wr _ _ _ _ hit⟩
      have hnum2 := HM2.out.all p (by omega)
      have HJ2 : Hid (J (zs.take p) (wr.iterAt (W.heap.size + 1) ⟨hs.toArray⟩ (p + 1))) := Lib.hid (HO.out.putObj _ HJs.out (by omega) hit rfl)
      have hpre : zs.take p ++ [(((hs.getD p 0).toNat : Int), numF a b c p)] <+: zs := by rw [← HT.out p hlt2]; exact HP.out _
      obtain ⟨fn, tmps, assign, body, hy, hR⟩ := HY.out _ _ _ HJ2.out hpre
      have HE := Lib.hid (HT.out p hlt2)
      have HPR := Lib.hid hpre
      simp only [enc2] at hy
      generalize numF a b c p = v at *
      generalize (((hs.getD p 0).toNat : Nat) : Int) = u at *
      clear hget hasc hpre HT HY HJ2 HJs HM
      generalize hW2 : wr.iterAt (W.heap.size + 1) ⟨hs.toArray⟩ (p + 1) = W2 at *
      gi_wp2
      refine ⟨fun h => (by cases h), ?_⟩
      refine hR.mono ?_
      rintro e W3 (⟨rfl, hJ3, hk3⟩ | ⟨rfl, hJx3, hk3⟩)
      · have HM3 : Hid (Mine W.heap.size ⟨hs.toArray⟩ a b c (p + 1) W3) := Lib.hid ⟨hk3.cells (Nat.le_refl _) he HM2.out.arr, hk3.2 _ _ (by omega) (fun _ _ h => by cases h) HM2.out.at_⟩
        have hmu3 : W3.iterPos (W.heap.size + 1) = p + 1 := by simp [World.iterPos, HM3.out.at_]
        have HJ3 := Lib.hid hJ3
        clear hJ3 hk3
        gi_wp2
        go_roundw
        case rel => exact ⟨p + 1, by omega, by rw [HE.out]; exact HJ3, HM3⟩
        case measure => rw [hmu3, hmu]; omega
      · have HJ3 := Lib.hid hJx3
        clear hJx3 hk3
        gi_wp2
        refine bodyPost_ret (results_none rfl _ _ _) rfl ?_
        exact ⟨⟨_, rfl⟩, .inr ⟨_, HPR.out, HJ3.out⟩⟩
    · obtain rfl : p = hs.length := by omega
      have hnx := fun ty => Lib.run_next_end_at (P := Tryd.prog) wr (W.heap.size + 1) ⟨hs.toArray⟩ hs.length ty hit (by simp [ByteArray.size])
      have HJF : Hid (J zs wr) := by have := HJs.out; rw [HF.out] at this; exact Lib.hid this
      clear HJs HM HT HY
      gi_wp2
      go_end0
      exact ⟨⟨_, rfl⟩, .inl HJF.out⟩
theorem numbers_seq (e₀ : TypeId) (he : 95 ≠ e₀) (n B : Nat) (k a b c : Int) (w : World) (hX : Arr4 w B 35 k a b c) (hR : RowsAt w) :
    SeqL e₀ Fence.wide n Tryd.prog 54 #[.pointer (some ⟨B, 0, none⟩)] enc2 (nums k a b c) w := fun l J Jx W hW hJ _ hY h0 => by
  have hX' := hX.other (hW.block _ hX.lt)
  by_cases hk : okK k
  · obtain ⟨m, rfl, h1, h2⟩ := hk.nat
    have hE : nums (m : Int) a b c = numsH (hsL m) a b c := rfl
    rw [hE] at hY ⊢
    exact seq33_yes e₀ he n l B m h1 h2 a b c J Jx W hX' (hR.below hW) hJ hY h0
  · rw [nums_no hk]
    exact (seq33_no n l B k a b c hk J W hX' h0).mono fun e W' ⟨he, hj⟩ => ⟨he, .inl hj⟩
end Go.Proofs.YthlpmkjhiifibaaDoor
