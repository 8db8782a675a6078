/- Laid together: OpBase, OpSeq, OpRegs, OpCheck, OpRef, Arena. -/
import Derived.Test.YtbpkdihonemogaaGreatDoorM1
import Derived.RangeFuncCalls
import Derived.Shelf.Abstract
import Derived.Shelf.RegionOpen
import Derived.WalkKit
import Derived.OwnWalkIn
import Derived.TacticsInMore
import Derived.LoopNIn
import Derived.LoopIn
import Derived.Lib.OthersKept
import Derived.RangeFuncKeeps
import Derived.WalkSmall
import Derived.IntWalk
import Derived.BigCall
import Derived.Lib.Hide
import Derived.Laws.LoneSync
import Derived.Laws.Pointers
import Derived.Below
import Derived.Deep.OwnRows
/- Package op's isKind, Name, Ret and last, and the document's Name, Ret, Part and Number: for every kind, result and number. -/
namespace Go.Proofs.YtbpkdihonemogaaGreatDoor
open Go Go.RowKit
set_option maxRecDepth 100000

/-- A kind's word, by its number: empty of none. -/
def nmL : Nat → List UInt8
  | 1 => [115, 101, 116]
  | 2 => [109, 111, 118, 101]
  | 3 => [99, 111, 110, 115]
  | 4 => [99, 97, 114]
  | 5 => [99, 100, 114]
  | 6 => [114, 112, 108, 97, 99, 97]
  | 7 => [114, 112, 108, 97, 99, 100]
  | 8 => [103, 101, 116]
  | 9 => [112, 117, 116]
  | 10 => [101, 113]
  | 11 => [97, 116, 111, 109]
  | _ => []
/-- What the numbers that a kind has are, a letter each. -/
def hsL : Nat → List UInt8
  | 1 => [114, 107]
  | 2 => [114, 114]
  | 3 => [114, 114, 114]
  | 4 => [114, 114]
  | 5 => [114, 114]
  | 6 => [114, 114]
  | 7 => [114, 114]
  | 8 => [114, 103]
  | 9 => [103, 114]
  | 10 => [114, 114]
  | 11 => [114]
  | _ => []
/-- A result's word. -/
def rtL : Nat → List UInt8
  | 1 => [111, 107]
  | 2 => [116, 114, 117, 101]
  | 3 => [102, 97, 108, 115, 101]
  | 4 => [97, 116, 111, 109]
  | 5 => [102, 117, 108, 108]
  | 6 => [98, 97, 100]
  | _ => []
/-- The kind is one. -/
def okK (k : Int) : Prop := 1 ≤ k ∧ k ≤ 11
theorem okK.nat {k : Int} (h : okK k) : ∃ m : Nat, k = m ∧ 1 ≤ m ∧ m ≤ 11 := ⟨k.toNat, by unfold okK at h; omega, by unfold okK at h; omega, by unfold okK at h; omega⟩
/-- The table of kinds, as its text lays it. -/
structure RowsAt (w : World) : Prop where
  name : ∀ m, m < 12 → w.cell? ⟨1, m * 2, none⟩ = some (.string ⟨(nmL m).toArray⟩)
  has : ∀ m, m < 12 → w.cell? ⟨1, m * 2 + 1, none⟩ = some (.string ⟨(hsL m).toArray⟩)
theorem RowsAt.below {w w' : World} (h : RowsAt w) (hb : Below w.heap.size w w') : RowsAt w' :=
  ⟨fun m hm => (hb.cell (p := ⟨_, _, none⟩) (lt_of_cell (h.name m hm))).trans (h.name m hm), fun m hm => (hb.cell (p := ⟨_, _, none⟩) (lt_of_cell (h.has m hm))).trans (h.has m hm)⟩

theorem isKind_yes (m : Nat) (h1 : 1 ≤ m) (h2 : m ≤ 11) (w : World) : Calls Tryz.prog 73 #[.int .i64 (m : Int)] w fun e w' => e = .returned (.bool true) ∧ w = w' := by
  have hd : decide ((m : Int) < 12) = true := decide_eq_true (by omega)
  go_enter Tryz.func73, Tryz.ntmps73
  go_wp2
  go_ret
  exact ⟨rfl, rfl⟩
theorem isKind_no (k : Int) (h : ¬ okK k) (w : World) : Calls Tryz.prog 73 #[.int .i64 k] w fun e w' => e = .returned (.bool false) ∧ w = w' := by
  by_cases h0 : 0 < k
  · have h1 : ¬ k < 12 := by unfold okK at h; omega
    have hd : decide (k < 12) = false := decide_eq_false h1
    clear h
    go_enter Tryz.func73, Tryz.ntmps73
    go_wp2
    go_ret
    exact ⟨rfl, rfl⟩
  · clear h
    go_enter Tryz.func73, Tryz.ntmps73
    go_wp2
    go_ret
    exact ⟨rfl, rfl⟩
theorem kind_cases {m : Nat} (h1 : 1 ≤ m) (h2 : m ≤ 11) : m = 1 ∨ m = 2 ∨ m = 3 ∨ m = 4 ∨ m = 5 ∨ m = 6 ∨ m = 7 ∨ m = 8 ∨ m = 9 ∨ m = 10 ∨ m = 11 := by omega
set_option maxHeartbeats 3200000 in
theorem refName_yes (m : Nat) (h1 : 1 ≤ m) (h2 : m ≤ 11) (w : World) : Calls Tryz.prog 37 #[.int .i64 (m : Int)] w fun e w' => e = .returned (.string ⟨(nmL m).toArray⟩) ∧ w = w' := by
  obtain rfl | rfl | rfl | rfl | rfl | rfl | rfl | rfl | rfl | rfl | rfl := kind_cases h1 h2
  all_goals
    clear h1 h2
    go_enter Tryz.func37, Tryz.ntmps37
    go_wp2
    go_ret
    exact ⟨rfl, rfl⟩
set_option maxHeartbeats 3200000 in
theorem refName_no (k : Int) (h : ¬ okK k) (w : World) : Calls Tryz.prog 37 #[.int .i64 k] w fun e w' => e = .returned (.string ⟨#[]⟩) ∧ w = w' := by
  unfold okK at h
  have q1 : ¬ k = 1 := by omega
  have q2 : ¬ k = 2 := by omega
  have q3 : ¬ k = 3 := by omega
  have q4 : ¬ k = 4 := by omega
  have q5 : ¬ k = 5 := by omega
  have q6 : ¬ k = 6 := by omega
  have q7 : ¬ k = 7 := by omega
  have q8 : ¬ k = 8 := by omega
  have q9 : ¬ k = 9 := by omega
  have q10 : ¬ k = 10 := by omega
  have q11 : ¬ k = 11 := by omega
  clear h
  go_enter Tryz.func37, Tryz.ntmps37
  go_wp2
  go_ret
  exact ⟨rfl, rfl⟩
/-- What the i-th number of a kind is: the document's number for it. -/
def codeF (m i : Nat) : Int := match (hsL m)[i]? with
  | some 114 => 1
  | some 103 => 2
  | some 107 => 3
  | _ => 0
set_option maxHeartbeats 6400000 in
theorem refPart_yes (m : Nat) (h1 : 1 ≤ m) (h2 : m ≤ 11) (i : Nat) (hi : i < 3) (w : World) : Calls Tryz.prog 39 #[.int .i64 (m : Int), .int .i64 (i : Int)] w fun e w' => e = .returned (.int .i64 (codeF m i)) ∧ w = w' := by
  have HN := Lib.hid (refName_yes m h1 h2)
  obtain rfl | rfl | rfl | rfl | rfl | rfl | rfl | rfl | rfl | rfl | rfl := kind_cases h1 h2
  all_goals
    clear h1 h2
    obtain rfl | rfl | rfl : i = 0 ∨ i = 1 ∨ i = 2 := by omega
    all_goals
      clear hi
      go_enter Tryz.func39, Tryz.ntmps39
      go_wp2_with fail
      refine (HN.out _).mono ?_
      rintro e W ⟨rfl, rfl⟩
      clear HN
      go_wp2
      go_ret
      exact ⟨rfl, rfl⟩
theorem refPart_no (k : Int) (h : ¬ okK k) (i : Int) (w : World) : Calls Tryz.prog 39 #[.int .i64 k, .int .i64 i] w fun e w' => e = .returned (.int .i64 0) ∧ w = w' := by
  have HN := Lib.hid (refName_no k h)
  clear h
  go_enter Tryz.func39, Tryz.ntmps39
  go_wp2_with fail
  refine (HN.out _).mono ?_
  rintro e W ⟨rfl, rfl⟩
  clear HN
  go_wp2
  go_ret
  exact ⟨rfl, rfl⟩
/-- An operation's i-th number. -/
def numF (a b c : Int) : Nat → Int
  | 0 => a
  | 1 => b
  | _ => c
theorem refNumber_c (k a b c : Int) (i : Nat) (hi : i < 3) (w : World) :
    Calls Tryz.prog 38 #[.agg #[.int .i64 k, .int .i64 a, .int .i64 b, .int .i64 c], .int .i64 (i : Int)] w fun e w' => e = .returned (.int .i64 (numF a b c i)) ∧ Below w.heap.size w w' := by
  have HB := Lib.hid (below_new w (.cells #[.int .i64 k, .int .i64 a, .int .i64 b, .int .i64 c] 26))
  obtain rfl | rfl | rfl : i = 0 ∨ i = 1 ∨ i = 2 := by omega
  all_goals
    clear hi
    go_enter Tryz.func38, Tryz.ntmps38
    go_wp2
    go_ret
    exact ⟨rfl, HB.out⟩
/-- The last that a number may be. -/
def lastF (c d x : Int) : Int := if x = 114 then c - 1 else if x = 103 then d - 1 else 9223372036854775807
theorem last_c (a b c d x : Int) (hr : Right a b c d) (w : World) :
    Calls Tryz.prog 75 #[.agg #[.int .i64 a, .int .i64 b, .int .i64 c, .int .i64 d], .int .i32 x] w fun e w' => e = .returned (.int .i64 (lastF c d x)) ∧ Below w.heap.size w w' := by
  have HB := Lib.hid (below_new w (.cells #[.int .i64 a, .int .i64 b, .int .i64 c, .int .i64 d] 39))
  have hc : 1 ≤ c ∧ c ≤ 64 := by unfold Right at hr; omega
  have hd : 0 ≤ d ∧ d ≤ 64 := by unfold Right at hr; omega
  obtain ⟨hc1, hc2⟩ := hc
  obtain ⟨hd1, hd2⟩ := hd
  clear hr
  have w1 : IntKind.i64.wrap (c - 1) = c - 1 := IntWalk.i64_in _ (by omega)
  have w2 : IntKind.i64.wrap (d - 1) = d - 1 := IntWalk.i64_in _ (by omega)
  by_cases h1 : x = 114
  · have HE : Hid (lastF c d x = c - 1) := Lib.hid (if_pos h1)
    go_enter Tryz.func75, Tryz.ntmps75
    go_wp2
    go_ret
    rw [HE.out]
    exact ⟨rfl, HB.out⟩
  · by_cases h2 : x = 103
    · have HE : Hid (lastF c d x = d - 1) := Lib.hid ((if_neg h1).trans (if_pos h2))
      go_enter Tryz.func75, Tryz.ntmps75
      go_wp2
      go_ret
      rw [HE.out]
      exact ⟨rfl, HB.out⟩
    · have HE : Hid (lastF c d x = 9223372036854775807) := Lib.hid ((if_neg h1).trans (if_neg h2))
      go_enter Tryz.func75, Tryz.ntmps75
      go_wp2
      go_ret
      rw [HE.out]
      exact ⟨rfl, HB.out⟩
end Go.Proofs.YtbpkdihonemogaaGreatDoor
/- Package op's iterators: numbers, which tells the numbers that an operation has, each with what it is, and Regs, which tells its registers. -/
namespace Go.Proofs.YtbpkdihonemogaaGreatDoor
open Go Go.RowKit Go.Shelf
attribute [local go_sem] Oper.semAt_some
set_option maxRecDepth 100000

/-- The numbers that an operation has, each with its letter. -/
def numsH (h : List UInt8) (a b c : Int) : List (Int × Int) := (List.range h.length).map fun i => (((h.getD i 0).toNat : Int), numF a b c i)
def nums (k a b c : Int) : List (Int × Int) := numsH (hsL k.toNat) a b c
theorem no_nat {k : Int} (h : ¬ okK k) : k.toNat = 0 ∨ 12 ≤ k.toNat := by unfold okK at h; omega
theorem hsL_out {m : Nat} (h : m = 0 ∨ 12 ≤ m) : hsL m = [] := by
  unfold hsL
  split <;> first | rfl | omega
theorem nmL_out {m : Nat} (h : m = 0 ∨ 12 ≤ m) : nmL m = [] := by
  unfold nmL
  split <;> first | rfl | omega
theorem nums_no {k : Int} (h : ¬ okK k) (a b c : Int) : nums k a b c = [] := by
  unfold nums; rw [hsL_out (no_nat h)]; rfl
theorem hsL_short (m : Nat) : (hsL m).length ≤ 3 := by
  unfold hsL
  split <;> decide
theorem hsL_ascii (m : Nat) : ∀ x ∈ hsL m, x.toNat < 128 := by
  unfold hsL
  split <;> decide
theorem numsH_take (h : List UInt8) (a b c : Int) {p : Nat} (hp : p < h.length) : (numsH h a b c).take (p + 1) = (numsH h a b c).take p ++ [(((h.getD p 0).toNat : Int), numF a b c p)] := by
  have hl : p < (numsH h a b c).length := by simpa [numsH] using hp
  rw [List.take_succ_eq_append_getElem hl]
  simp [numsH]
theorem numsH_length (h : List UInt8) (a b c : Int) : (numsH h a b c).length = h.length := by simp [numsH]
def enc2 (x : Int × Int) : Array Value := #[Value.int .i32 x.1, Value.int .i64 x.2]

theorem opNumbers_c (k a b c : Int) (w : World) : Calls Tryz.prog 74 #[.agg #[.int .i64 k, .int .i64 a, .int .i64 b, .int .i64 c]] w fun e w' =>
    e = .returned (.func (.func 119) #[] #[.pointer (some ⟨w.heap.size, 0, none⟩)]) ∧ w' = w.alloc (.cells #[.int .i64 k, .int .i64 a, .int .i64 b, .int .i64 c] 26) := by
  go_enter Tryz.func74, Tryz.ntmps74
  go_wp2
  go_ret
  exact ⟨rfl, rfl⟩
theorem seq33_no (n l B : Nat) (k a b c : Int) (hk : ¬ okK k) (J : List (Int × Int) → World → Prop) (W : World) (hX : Arr4 W B 26 k a b c) (h0 : J [] W) :
    CallsIn Fence.wide n Tryz.prog 119 #[.func (.yield l) #[] #[], .pointer (some ⟨B, 0, none⟩)] W fun e W' => (∃ v, e = .returned v) ∧ J [] W' := by
  have HK := Lib.hid (isKind_no k hk)
  obtain ⟨x0, x1, x2, x3, xf⟩ := hX.cells
  clear hk hX
  refine callsIn_of_wp Tryz.func119 rfl trivial ?_ rfl
  simp only [Tryz.ntmps119, List.size_toArray, List.length_cons, List.length_nil, Nat.reduceAdd, Nat.reduceSub, Array.replicate_succ, Array.replicate_zero, List.push_toArray, List.append_toArray, List.nil_append, List.cons_append]
  gi_wp2_with fail
  refine ⟨trivial, fun h => (by cases h), ?_⟩
  refine (callsIn_wide.2 (HK.out _)).mono ?_
  rintro e w' ⟨rfl, rfl⟩
  gi_wp2
  refine bodyPost_ret (results_none rfl _ _ _) rfl ?_
  exact ⟨⟨_, rfl⟩, h0⟩
/-- What the iterator has laid down of its own: the three numbers, and how far it is in the letters. -/
structure Mine (A : Nat) (h : ByteArray) (a b c : Int) (p : Nat) (W : World) : Prop where
  arr : W.heap[A]? = some (.cells #[.int .i64 a, .int .i64 b, .int .i64 c] 147 (0, 0))
  at_ : W.heap[A + 1]? = some (.stringIter h p)
theorem Mine.all {A : Nat} {h : ByteArray} {a b c : Int} {p : Nat} {W : World} (hM : Mine A h a b c p W) (i : Nat) (hi : i < 3) : W.cell? ⟨A, i, none⟩ = some (.int .i64 (numF a b c i)) := by
  have := hM.arr
  obtain rfl | rfl | rfl : i = 0 ∨ i = 1 ∨ i = 2 := by omega
  all_goals simp [World.cell?, this, numF]
set_option maxHeartbeats 4000000 in
theorem seq33_yes (e₀ : TypeId) (he : 147 ≠ e₀) (n l B m : Nat) (h1 : 1 ≤ m) (h2 : m ≤ 11) (a b c : Int) (J Jx : List (Int × Int) → World → Prop) (W : World) (hX : Arr4 W B 26 m a b c) (hR : RowsAt W) (hJ : OwnFrom W.heap.size J)
    (hY : ∀ pre x W1, J pre W1 → pre ++ [x] <+: numsH (hsL m) a b c → YieldAt Fence.wide (n - 1) Tryz.prog l (enc2 x) W1 fun e W' =>
      (e = .returned (.bool true) ∧ J (pre ++ [x]) W' ∧ KeepsTop e₀ W.heap.size W1 W') ∨ (e = .returned (.bool false) ∧ Jx (pre ++ [x]) W' ∧ KeepsTop e₀ W.heap.size W1 W'))
    (h0 : J [] W) :
    CallsIn Fence.wide n Tryz.prog 119 #[.func (.yield l) #[] #[], .pointer (some ⟨B, 0, none⟩)] W fun e W' => (∃ v, e = .returned v) ∧
      (J (numsH (hsL m) a b c) W' ∨ ∃ pre, pre <+: numsH (hsL m) a b c ∧ Jx pre W') := by
  have HK := Lib.hid (isKind_yes m h1 h2)
  obtain ⟨x0, x1, x2, x3, xf⟩ := hX.cells
  have hc := hR.has m (by omega)
  have hlt : B < W.heap.size := hX.lt
  have hgl : 1 < W.heap.size := lt_of_cell hc
  have hlen := hsL_short m
  have HA := Lib.hid (hsL_ascii m)
  clear hX hR
  generalize hsL m = hs at *
  have HF : Hid ((numsH hs a b c).take hs.length = numsH hs a b c) := Lib.hid (List.take_of_length_le (by rw [numsH_length]; exact Nat.le_refl _))
  have HT : Hid (∀ p, p < hs.length → (numsH hs a b c).take (p + 1) = (numsH hs a b c).take p ++ [(((hs.getD p 0).toNat : Int), numF a b c p)]) := Lib.hid (fun p hp => numsH_take hs a b c hp)
  have HP : Hid (∀ p, (numsH hs a b c).take p <+: numsH hs a b c) := Lib.hid (fun p => List.take_prefix _ _)
  generalize numsH hs a b c = zs at *
  have HO := Lib.hid hJ
  have HY := Lib.hid hY
  clear hJ hY
  have h0' := Lib.hid h0; clear h0
  refine callsIn_of_wp Tryz.func119 rfl trivial ?_ rfl
  simp only [Tryz.ntmps119, List.size_toArray, List.length_cons, List.length_nil, Nat.reduceAdd, Nat.reduceSub, Array.replicate_succ, Array.replicate_zero, List.push_toArray, List.append_toArray, List.nil_append, List.cons_append]
  gi_wp2_with fail
  refine ⟨trivial, fun h => (by cases h), ?_⟩
  refine (callsIn_wide.2 (HK.out _)).mono ?_
  rintro e w' ⟨rfl, rfl⟩
  clear HK
  gi_wp2
  gi_loopw [23] (fun _ wr => ∃ p : Nat, p ≤ hs.length ∧ Hid (J (zs.take p) wr) ∧ Hid (Mine W.heap.size ⟨hs.toArray⟩ a b c p wr)) (fun _ wr => hs.length - wr.iterPos (W.heap.size + 1))
  case atStart =>
    refine ⟨0, Nat.zero_le _, Lib.hid ?_, Lib.hid ⟨?_, ?_⟩⟩
    · rw [List.take_zero]
      exact HO.out.alloc _ (HO.out.alloc _ h0'.out)
    · exact (Below.heap_alloc _ _ _ (by simp)).trans (World.alloc_heap_new W _)
    · have := World.alloc_heap_new (W.alloc (.cells #[.int .i64 a, .int .i64 b, .int .i64 c] 147)) (.stringIter ⟨hs.toArray⟩ 0)
      rw [World.size_alloc] at this
      exact this
  case round =>
    obtain ⟨p, hp, HJs, HM⟩ := hrel
    have hit := HM.out.at_
    have hmu : wr.iterPos (W.heap.size + 1) = p := by simp [World.iterPos, hit]
    by_cases hlt2 : p < hs.length
    · have hsz : p < (⟨hs.toArray⟩ : ByteArray).size := by simpa [ByteArray.size] using hlt2
      have hget : (⟨hs.toArray⟩ : ByteArray)[p]'hsz = hs.getD p 0 := by
        show hs.toArray[p]'_ = _
        simp [List.getD, hlt2]
      have hasc : ((⟨hs.toArray⟩ : ByteArray)[p]'hsz).toNat < 128 := by
        rw [hget]; exact HA.out _ (by simp [List.getD, hlt2])
      have hnx := fun ty => Lib.run_next_ascii_at (P := Tryz.prog) wr (W.heap.size + 1) ⟨hs.toArray⟩ p ty hit hsz hasc
      rw [hget] at hnx
      have hnum := HM.out.all p (by omega)
      have hlt3 : W.heap.size + 1 < wr.heap.size := (Array.getElem?_eq_some_iff.1 hit).1
      have HM2 : Hid (Mine W.heap.size ⟨hs.toArray⟩ a b c (p + 1) (wr.iterAt (W.heap.size + 1) ⟨hs.toArray⟩ (p + 1))) := Lib.hid ⟨(Lib.iterAt_other wr _ _ _ _ (by simp)).trans HM.out.arr, Lib.iterAt_heap wr _ _ _ _ hit⟩
      have hnum2 := HM2.out.all p (by omega)
      have HJ2 : Hid (J (zs.take p) (wr.iterAt (W.heap.size + 1) ⟨hs.toArray⟩ (p + 1))) := Lib.hid (HO.out.putObj _ HJs.out (by omega) hit rfl)
      have hpre : zs.take p ++ [(((hs.getD p 0).toNat : Int), numF a b c p)] <+: zs := by rw [← HT.out p hlt2]; exact HP.out _
      obtain ⟨fn, tmps, assign, body, hy, hR⟩ := HY.out _ _ _ HJ2.out hpre
      have HE := Lib.hid (HT.out p hlt2)
      have HPR := Lib.hid hpre
      simp only [enc2] at hy
      generalize numF a b c p = v at *
      generalize (((hs.getD p 0).toNat : Nat) : Int) = u at *
      clear hget hasc hpre HT HY HJ2 HJs HM
      generalize hW2 : wr.iterAt (W.heap.size + 1) ⟨hs.toArray⟩ (p + 1) = W2 at *
      gi_wp2
      refine ⟨fun h => (by cases h), ?_⟩
      refine hR.mono ?_
      rintro e W3 (⟨rfl, hJ3, hk3⟩ | ⟨rfl, hJx3, hk3⟩)
      · have HM3 : Hid (Mine W.heap.size ⟨hs.toArray⟩ a b c (p + 1) W3) := Lib.hid ⟨hk3.cells (Nat.le_refl _) he HM2.out.arr, hk3.2 _ _ (by omega) (fun _ _ h => by cases h) HM2.out.at_⟩
        have hmu3 : W3.iterPos (W.heap.size + 1) = p + 1 := by simp [World.iterPos, HM3.out.at_]
        have HJ3 := Lib.hid hJ3
        clear hJ3 hk3
        gi_wp2
        go_roundw
        case rel => exact ⟨p + 1, by omega, by rw [HE.out]; exact HJ3, HM3⟩
        case measure => rw [hmu3, hmu]; omega
      · have HJ3 := Lib.hid hJx3
        clear hJx3 hk3
        gi_wp2
        refine bodyPost_ret (results_none rfl _ _ _) rfl ?_
        exact ⟨⟨_, rfl⟩, .inr ⟨_, HPR.out, HJ3.out⟩⟩
    · obtain rfl : p = hs.length := by omega
      have hnx := fun ty => Lib.run_next_end_at (P := Tryz.prog) wr (W.heap.size + 1) ⟨hs.toArray⟩ hs.length ty hit (by simp [ByteArray.size])
      have HJF : Hid (J zs wr) := by have := HJs.out; rw [HF.out] at this; exact Lib.hid this
      clear HJs HM HT HY
      gi_wp2
      go_end0
      exact ⟨⟨_, rfl⟩, .inl HJF.out⟩
theorem numbers_seq (e₀ : TypeId) (he : 147 ≠ e₀) (n B : Nat) (k a b c : Int) (w : World) (hX : Arr4 w B 26 k a b c) (hR : RowsAt w) :
    SeqL e₀ Fence.wide n Tryz.prog 119 #[.pointer (some ⟨B, 0, none⟩)] enc2 (nums k a b c) w := fun l J Jx W hW hJ _ hY h0 => by
  have hX' := hX.other (hW.block _ hX.lt)
  by_cases hk : okK k
  · obtain ⟨m, rfl, h1, h2⟩ := hk.nat
    have hE : nums (m : Int) a b c = numsH (hsL m) a b c := rfl
    rw [hE] at hY ⊢
    exact seq33_yes e₀ he n l B m h1 h2 a b c J Jx W hX' (hR.below hW) hJ hY h0
  · rw [nums_no hk]
    exact (seq33_no n l B k a b c hk J W hX' h0).mono fun e W' ⟨he, hj⟩ => ⟨he, .inl hj⟩
end Go.Proofs.YtbpkdihonemogaaGreatDoor
/- Package op's Regs: the registers of any operation, told one behind the other. -/
namespace Go.Proofs.YtbpkdihonemogaaGreatDoor
open Go Go.RowKit Go.Shelf
attribute [local go_sem] Oper.semAt_some
set_option maxRecDepth 100000

def regOf (x : Int × Int) : Option Int := if x.1 = 114 then some x.2 else none
/-- An operation's registers. -/
def regsL (k a b c : Int) : List Int := (nums k a b c).filterMap regOf
theorem regs_snoc (pre : List (Int × Int)) (x : Int × Int) : (pre ++ [x]).filterMap regOf = pre.filterMap regOf ++ (regOf x).toList := by
  rw [List.filterMap_append]; cases h : regOf x <;> simp [h]
def enc1 (x : Int) : Array Value := #[Value.int .i64 x]
theorem OwnFrom.up {β : Type} {B B' : Nat} {I : β → World → Prop} (h : OwnFrom B I) (hb : B ≤ B') : OwnFrom B' I := fun s A A' row hs hg hr => h s A A' row hs hg (fun r e => ⟨Nat.le_trans hb (hr r e).1, (hr r e).2⟩)
theorem cells_kept {A A' : World} {row : Option Nat} {B : Nat} {cs : Array Value} {t : TypeId} {fz : Nat × Nat} (h : A.heap[B]? = some (.cells cs t fz)) (hg : A.grownBy A' row) (hr : ∀ r, row = some r → ∃ o : Obj, A.heap[r]? = some o ∧ o.isCells = false) : A'.heap[B]? = some (.cells cs t fz) :=
  (hg.block B (Array.getElem?_eq_some_iff.1 h).1 (fun e => by
    obtain ⟨o, ho, hc⟩ := hr B e.symm
    rw [h] at ho; cases ho; cases hc)).trans h
theorem roomNone {F : Fence} (hd : F.depth = none) (k : Nat) : F.room k := fun d h => by rw [hd] at h; cases h
theorem roundWide {m m' l' : Nat} {P : Program} {l : Nat} {f : FuncId} {tmps : Array Value} {assign body : Code} {w : World} {R : Ending → World → Prop}
    (h : RoundIn Fence.wide m P l f tmps assign body w R) : RoundIn (Fence.wide.inRound l') m' P l f tmps assign body w R := ⟨h.1, fun c cs _ => h.2 c cs (roomNone rfl _)⟩

end Go.Proofs.YtbpkdihonemogaaGreatDoor
/- Package op's Check, for every configuration and every operation: whether it is right, or which fault it has. -/
namespace Go.Proofs.YtbpkdihonemogaaGreatDoor
open Go Go.RowKit Go.Shelf
attribute [local go_sem] Oper.semAt_some
set_option maxRecDepth 100000

instance instRightOp (a b c d : Int) : Decidable (Right a b c d) := by unfold Right; exact inferInstance
instance (k : Int) : Decidable (okK k) := by unfold okK; exact inferInstance
/-- A number is inside. -/
def okP (c d : Int) (x : Int × Int) : Prop := 0 ≤ x.2 ∧ x.2 ≤ lastF c d x.1
instance (c d : Int) (x : Int × Int) : Decidable (okP c d x) := by unfold okP; exact inferInstance
/-- The error's number of an operation. -/
def checkF (a b c d k x y z : Int) : Int := if Right a b c d then (if okK k then (if ∀ p ∈ nums k x y z, okP c d p then 0 else 2) else 4) else 1

theorem Arr4.own {A A' : World} {row : Option Nat} {B : Nat} {t : TypeId} {x0 x1 x2 x3 : Int} (h : Arr4 A B t x0 x1 x2 x3) (hg : A.grownBy A' row) (hr : ∀ r, row = some r → ∃ o : Obj, A.heap[r]? = some o ∧ o.isCells = false) : Arr4 A' B t x0 x1 x2 x3 :=
  (hg.block B h.lt (fun e => by
    obtain ⟨o, ho, hc⟩ := hr B e.symm
    unfold Arr4 at h
    rw [h] at ho; cases ho; cases hc)).trans h
/-- Check's own memory: the configuration, the operation, and the result. -/
structure ChkAt (w W : World) (a b c d k x y z v : Int) : Prop where
  cfg : Arr4 W w.heap.size 39 a b c d
  op : Arr4 W (w.heap.size + 1) 26 k x y z
  res : W.cell? ⟨w.heap.size + 2, 0, none⟩ = some (.int .i64 v)
  free : W.frozen? ⟨w.heap.size + 2, 0, none⟩ = false
  old : Below w.heap.size w W
theorem ChkAt.on {w W W' : World} {a b c d k x y z v : Int} (h : ChkAt w W a b c d k x y z v) (hb : Below W.heap.size W W') : ChkAt w W' a b c d k x y z v :=
  ⟨h.cfg.below hb, h.op.below hb, (hb.cell (p := ⟨_, 0, none⟩) (lt_of_cell h.res)).trans h.res, (hb.frozen (p := ⟨_, 0, none⟩) (lt_of_cell h.res)).trans h.free, belowOn h.old hb⟩
theorem ChkAt.own {w A A' : World} {row : Option Nat} {a b c d k x y z v : Int} (h : ChkAt w A a b c d k x y z v) (hg : A.grownBy A' row) (hr : ∀ r, row = some r → w.heap.size ≤ r ∧ ∃ o : Obj, A.heap[r]? = some o ∧ o.isCells = false) : ChkAt w A' a b c d k x y z v :=
  have hr' : ∀ r, row = some r → ∃ o : Obj, A.heap[r]? = some o ∧ o.isCells = false := fun r e => (hr r e).2
  ⟨h.cfg.own hg hr', h.op.own hg hr', cell_kept h.res hg hr', (frozen_kept h.res hg hr').trans h.free, h.old.grown hg h.old.size (fun k e => (hr k e).1)⟩
theorem ChkAt.set {w W : World} {a b c d k x y z v : Int} (h : ChkAt w W a b c d k x y z v) (u : Int) : ChkAt w (W.setCell ⟨w.heap.size + 2, 0, none⟩ (.int .i64 u)) a b c d k x y z u :=
  ⟨h.cfg.other (Below.heap_setCell W _ _ _ (by simp)), h.op.other (Below.heap_setCell W _ _ _ (by simp)), World.cell?_setCell_same' W _ _ (by rw [h.res]; rfl), by rw [World.frozen?_setCell]; exact h.free, h.old.setCell (p := ⟨w.heap.size + 2, 0, none⟩) (by simp) _⟩
def chk0 (w : World) (a b c d k x y z : Int) : World := ((w.alloc (.cells #[.int .i64 a, .int .i64 b, .int .i64 c, .int .i64 d] 39)).alloc (.cells #[.int .i64 k, .int .i64 x, .int .i64 y, .int .i64 z] 26)).alloc (.cells #[.int .i64 0] 44)
theorem ChkAt.new (w : World) (a b c d k x y z : Int) : ChkAt w (chk0 w a b c d k x y z) a b c d k x y z 0 := by
  unfold chk0
  refine ⟨?_, ?_, ?_, ?_, below_on (below_on (below_new w _) _) _⟩
  · exact ((Arr4.new w _ a b c d).below (below_new _ _)).below (below_new _ _)
  · have := (Arr4.new (w.alloc (.cells #[.int .i64 a, .int .i64 b, .int .i64 c, .int .i64 d] 39)) 26 k x y z).below (below_new _ (.cells #[.int .i64 0] 44))
    rw [show (w.alloc (.cells #[.int .i64 a, .int .i64 b, .int .i64 c, .int .i64 d] 39)).heap.size = w.heap.size + 1 by simp] at this
    exact this
  · have := World.cell?_alloc_new ((w.alloc (.cells #[.int .i64 a, .int .i64 b, .int .i64 c, .int .i64 d] 39)).alloc (.cells #[.int .i64 k, .int .i64 x, .int .i64 y, .int .i64 z] 26)) #[.int .i64 0] 44 0
    simpa using this
  · have := World.frozen?_alloc_new ((w.alloc (.cells #[.int .i64 a, .int .i64 b, .int .i64 c, .int .i64 d] 39)).alloc (.cells #[.int .i64 k, .int .i64 x, .int .i64 y, .int .i64 z] 26)) #[.int .i64 0] 44 0
    simpa using this
theorem check_notRight (a b c d k x y z : Int) (hr : ¬ Right a b c d) (w : World) (hS : SpansAt w) :
    Calls Tryz.prog 43 #[.agg #[.int .i64 a, .int .i64 b, .int .i64 c, .int .i64 d], .agg #[.int .i64 k, .int .i64 x, .int .i64 y, .int .i64 z]] w fun e w' => e = .returned (.int .i64 1) ∧ Below w.heap.size w w' := by
  have H0 := Lib.hid (ChkAt.new w a b c d k x y z)
  have HC := Lib.hid (check_wrong a b c d hr _ (hS.below H0.out.old))
  unfold chk0 at H0 HC
  clear hr hS
  go_enter Tryz.func43, Tryz.ntmps43
  go_wp2_with fail
  refine HC.out.mono ?_
  rintro e W ⟨rfl, hW⟩
  have H1 := Lib.hid (H0.out.on hW)
  have hc := H1.out.res; have hf := H1.out.free
  clear H0 HC hW
  go_wp2_with fail
  have hc5 := (H1.out.set 1).res
  refine bodyPost_ret (v := .int .i64 1) (by simp [results, Tryz.f43, go_sem, hc5]) rfl ?_
  exact ⟨rfl, (H1.out.set 1).old⟩
theorem check_notKind (a b c d k x y z : Int) (hr : Right a b c d) (hk : ¬ okK k) (w : World) (hS : SpansAt w) :
    Calls Tryz.prog 43 #[.agg #[.int .i64 a, .int .i64 b, .int .i64 c, .int .i64 d], .agg #[.int .i64 k, .int .i64 x, .int .i64 y, .int .i64 z]] w fun e w' => e = .returned (.int .i64 4) ∧ Below w.heap.size w w' := by
  have H0 := Lib.hid (ChkAt.new w a b c d k x y z)
  have HC := Lib.hid (check_right a b c d hr _ (hS.below H0.out.old))
  have HK := Lib.hid (isKind_no k hk)
  unfold chk0 at H0 HC
  clear hr hS hk
  go_enter Tryz.func43, Tryz.ntmps43
  go_wp2_with fail
  refine HC.out.mono ?_
  rintro e W ⟨rfl, hW⟩
  have H1 := Lib.hid (H0.out.on hW)
  obtain ⟨o0, _, _, _, _⟩ := H1.out.op.cells
  clear H0 HC hW
  go_wp2_with fail
  refine (HK.out _).mono ?_
  rintro e W2 ⟨rfl, rfl⟩
  have hc := H1.out.res; have hf := H1.out.free
  clear HK
  go_wp2_with fail
  have hc5 := (H1.out.set 4).res
  refine bodyPost_ret (v := .int .i64 4) (by simp [results, Tryz.f43, go_sem, hc5]) rfl ?_
  exact ⟨rfl, (H1.out.set 4).old⟩
set_option maxHeartbeats 4000000 in
theorem check_kind (a b c d : Int) (m : Nat) (h1 : 1 ≤ m) (h2 : m ≤ 11) (x y z : Int) (hr : Right a b c d) (w : World) (hS : SpansAt w) (hR : RowsAt w) :
    Calls Tryz.prog 43 #[.agg #[.int .i64 a, .int .i64 b, .int .i64 c, .int .i64 d], .agg #[.int .i64 (m : Int), .int .i64 x, .int .i64 y, .int .i64 z]] w fun e w' => e = .returned (.int .i64 (if ∀ p ∈ nums m x y z, okP c d p then 0 else 2)) ∧ Below w.heap.size w w' := by
  have HV0 : Hid ((∀ p ∈ nums m x y z, okP c d p) → (if ∀ p ∈ nums m x y z, okP c d p then 0 else 2 : Int) = 0) := Lib.hid (fun h => if_pos h)
  have HV2 : Hid ((¬ ∀ p ∈ nums m x y z, okP c d p) → (if ∀ p ∈ nums m x y z, okP c d p then 0 else 2 : Int) = 2) := Lib.hid (fun h => if_neg h)
  generalize (if ∀ p ∈ nums m x y z, okP c d p then 0 else 2 : Int) = V at *
  have H0 := Lib.hid (ChkAt.new w a b c d m x y z)
  have HC := Lib.hid (check_right a b c d hr _ (hS.below H0.out.old))
  have HK := Lib.hid (isKind_yes m h1 h2)
  have HR := Lib.hid hR
  have HL := Lib.hid (fun v => last_c a b c d v hr)
  unfold chk0 at H0 HC
  clear hr hS hR h1 h2
  refine (callsIn_wide (n := 20)).1 ?_
  refine callsIn_of_wp_marks Tryz.func43 rfl trivial ?_ rfl
  simp only [Tryz.ntmps43, List.size_toArray, List.length_cons, List.length_nil, Nat.reduceAdd, Nat.reduceSub, Array.replicate_succ, Array.replicate_zero, List.push_toArray, List.append_toArray, List.nil_append, List.cons_append]
  gi_wp2_with fail
  refine ⟨trivial, ?_⟩
  refine (callsIn_wide.2 HC.out).mono ?_
  rintro e W ⟨rfl, hW⟩
  have H1 := Lib.hid (H0.out.on hW)
  obtain ⟨o0, o1, o2, o3, _⟩ := H1.out.op.cells
  clear H0 HC hW
  gi_wp2_with fail
  refine ⟨trivial, ?_⟩
  refine (callsIn_wide.2 (HK.out _)).mono ?_
  rintro e W2 ⟨rfl, rfl⟩
  clear HK
  gi_wp2_with fail
  refine ⟨trivial, ?_⟩
  refine (callsIn_wide.2 (opNumbers_c m x y z _)).mono ?_
  rintro e W2 ⟨rfl, hW2⟩
  have hb2 : Below W.heap.size W W2 := by rw [hW2]; exact below_new _ _
  have hX2 : Arr4 W2 W.heap.size 26 m x y z := by rw [hW2]; exact Arr4.new _ _ _ _ _ _
  have H2 := Lib.hid (H1.out.on hb2)
  have HS := Lib.hid (numbers_seq 9 (by decide) (20 - 1) _ m x y z _ hX2 (HR.out.below H2.out.old))
  have hz2 : w.heap.size + 2 < W2.heap.size := lt_of_cell H2.out.res
  clear hb2 hX2 H1 o0 o1 o2 o3 hW2
  gi_wp2
  refine wpIn_rangeL rfl (by decide) (gf := 119) (lb := #[.pointer (some ⟨W.heap.size, 0, none⟩)]) rfl trivial (enters_of Tryz.func119 (by kernel_rfl) rfl)
    HS.out (Below.refl _ _) (fun _ => rfl)
    (fun pre W' => (∀ p ∈ pre, okP c d p) ∧ ChkAt w W' a b c d m x y z 0)
    (fun cc pre W' => (cc = .ret ∧ ¬ ∀ p ∈ pre, okP c d p) ∧ ChkAt w W' a b c d m x y z 2)
    (OwnFrom.and (ownFrom_pure _ _) (fun s A B row hs hg hrr => hs.own hg (fun r e => ⟨by have := (hrr r e).1; omega, (hrr r e).2⟩)))
    (fun cc => OwnFrom.and (ownFrom_pure _ _) (fun s A B row hs hg hrr => hs.own hg (fun r e => ⟨by have := (hrr r e).1; omega, (hrr r e).2⟩)))
    ⟨by simp, H2.out⟩
    (fun q => { tmps := #[.agg #[.int .i64 a, .int .i64 b, .int .i64 c, .int .i64 d], .agg #[.int .i64 (m : Int), .int .i64 x, .int .i64 y, .int .i64 z], .pointer (some ⟨w.heap.size, 0, none⟩), .pointer (some ⟨w.heap.size + 1, 0, none⟩), .pointer (some ⟨w.heap.size + 1 + 1, 0, none⟩), .int .i32 q.1, .int .i64 q.2,
      .agg #[.int .i64 a, .int .i64 b, .int .i64 c, .int .i64 d], .int .i64 0, .bool false, .pointer (some ⟨w.heap.size + 1, 0, none⟩), .int .i64 (m : Int), .bool true, .bool false, .agg #[.int .i64 (m : Int), .int .i64 x, .int .i64 y, .int .i64 z], .func (.func 119) #[] #[.pointer (some ⟨W.heap.size, 0, none⟩)],
      .int .i32 q.1, .int .i64 q.2, undef, undef, undef, undef, undef, undef, undef, undef, undef], defers := [] }) ?assign ?body ?done ?stop
  case assign =>
    intro l' q W' K hK
    simp only [enc2]
    gi_wp2
    exact hK
  case body =>
    rintro l' pre ⟨u, v⟩ W' ⟨hok, hC⟩ hpre
    have HC := Lib.hid hC
    clear hC hpre HS
    by_cases hv : v < 0
    · have HN : Hid (¬ ∀ p ∈ pre ++ [(u, v)], okP c d p) := Lib.hid (fun h => by have := (h (u, v) (by simp)).1; simp only at this; omega)
      have hc := HC.out.res; have hf := HC.out.free
      clear hok
      gi_wp2
      refine ⟨trivial, ?_⟩
      gi_wp2
      exact ⟨KeepsTop.of_grownBy (grownBy_setCell' W' _ _) (fun j e => by cases e; omega), ⟨rfl, HN.out⟩, HC.out.set 2⟩
    · have hv' : 0 ≤ v := by omega
      obtain ⟨c0, c1, c2, c3, _⟩ := HC.out.cfg.cells
      have HO := Lib.hid hok
      clear hok
      gi_wp2_with fail
      refine ⟨trivial, ?_⟩
      refine (CallsIn.inRound l' (callsIn_wide.2 (HL.out u _))).mono ?_
      rintro e W3 ⟨rfl, hW3⟩
      have HC3 := Lib.hid (HC.out.on hW3)
      have HT3 : Hid (KeepsTop 9 W2.heap.size W' W3) := Lib.hid (KeepsTop.of_below hW3)
      have hc := HC3.out.res; have hf := HC3.out.free
      clear HC hW3 c0 c1 c2 c3 HL
      by_cases hle : lastF c d u < v
      · have HN : Hid (¬ ∀ p ∈ pre ++ [(u, v)], okP c d p) := Lib.hid (fun h => by have := (h (u, v) (by simp)).2; simp only at this; omega)
        generalize lastF c d u = lu at *
        gi_wp2
        exact ⟨HT3.out.trans (KeepsTop.of_grownBy (grownBy_setCell' W3 _ _) (fun j e => by cases e; omega)), ⟨rfl, HN.out⟩, HC3.out.set 2⟩
      · have HN : Hid (∀ p ∈ pre ++ [(u, v)], okP c d p) := Lib.hid (fun p hp => by
          rcases List.mem_append.1 hp with hp | hp
          · exact HO.out p hp
          · obtain rfl : p = (u, v) := by simpa using hp
            exact ⟨hv', by simp only; omega⟩)
        generalize lastF c d u = lu at *
        gi_wp2
        exact ⟨HT3.out, HN.out, HC3.out⟩
  case done =>
    rintro D W' hD ⟨hok, hC⟩ hK
    have HC := Lib.hid hC; have HO := Lib.hid hok
    have hc := HC.out.res; have hf := HC.out.free
    clear hC hok HS
    gi_wp2
    have hK' := (KeepsOthers.setCell W' ⟨w.heap.size + 2, 0, none⟩ (.int .i64 0)).same D _ hK rfl
    refine ⟨by simp, .inl ⟨_, _, rfl, run_takeDeferred hK', ?_⟩⟩
    have hC5 := (HC.out.set 0).own (grownBy_putObj' _ D (.deferred none)) (fun r e => by cases e; exact ⟨by omega, _, hK', rfl⟩)
    have hc5 := hC5.res
    refine ⟨.int .i64 0, ?_, by rw [HV0.out HO.out], hC5.old⟩
    simp [results, Tryz.f43, go_sem, hc5]
  case stop =>
    rintro D cc pre W' hD hpre ⟨⟨rfl, hnot⟩, hC⟩ hK
    have HC := Lib.hid hC
    have HN : Hid (¬ ∀ p ∈ nums m x y z, okP c d p) := Lib.hid (fun h => hnot (fun p hp => h p (hpre.subset hp)))
    clear hC hnot hpre HS
    gi_wp2
    refine ⟨by simp, .inl ⟨_, _, rfl, run_takeDeferred hK, ?_⟩⟩
    have hC5 := HC.out.own (grownBy_putObj' _ D (.deferred none)) (fun r e => by cases e; exact ⟨by omega, _, hK, rfl⟩)
    have hc5 := hC5.res
    refine ⟨.int .i64 2, ?_, by rw [HV2.out HN.out], hC5.old⟩
    simp [results, Tryz.f43, go_sem, hc5]
theorem opCheck_c (a b c d k x y z : Int) (w : World) (hS : SpansAt w) (hR : RowsAt w) :
    Calls Tryz.prog 43 #[.agg #[.int .i64 a, .int .i64 b, .int .i64 c, .int .i64 d], .agg #[.int .i64 k, .int .i64 x, .int .i64 y, .int .i64 z]] w fun e w' => e = .returned (.int .i64 (checkF a b c d k x y z)) ∧ Below w.heap.size w w' := by
  unfold checkF
  by_cases hr : Right a b c d
  · rw [if_pos hr]
    by_cases hk : okK k
    · rw [if_pos hk]
      obtain ⟨m, rfl, h1, h2⟩ := hk.nat
      exact check_kind a b c d m h1 h2 x y z hr w hS hR
    · rw [if_neg hk]
      exact check_notKind a b c d k x y z hr hk w hS
  · rw [if_neg hr]
    exact check_notRight a b c d k x y z hr w hS
end Go.Proofs.YtbpkdihonemogaaGreatDoor
/- The document's Check of an operation, for every operation. -/
namespace Go.Proofs.YtbpkdihonemogaaGreatDoor
open Go Go.RowKit
set_option maxRecDepth 100000
attribute [local go_sem ↓] Go.wp_at_zero Go.wp_at_succ

/-- A number that an int can be. -/
def inI (x : Int) : Prop := -9223372036854775808 ≤ x ∧ x ≤ 9223372036854775807
/-- The document's test of the i-th number. -/
def okI (c d x y z : Int) (m i : Nat) : Prop := (codeF m i ≠ 0 → 0 ≤ numF x y z i) ∧ (codeF m i = 1 → numF x y z i < c) ∧ (codeF m i = 2 → numF x y z i < d)
theorem codeF_cases (m i : Nat) : codeF m i = 0 ∨ codeF m i = 1 ∨ codeF m i = 2 ∨ codeF m i = 3 := by
  unfold codeF
  split <;> simp
set_option maxHeartbeats 1600000 in
theorem ok_same {m : Nat} (h1 : 1 ≤ m) (h2 : m ≤ 11) (c d x y z : Int) (hx : inI x) (hy : inI y) (hz : inI z) : (∀ i, i < 3 → okI c d x y z m i) ↔ ∀ p ∈ nums m x y z, okP c d p := by
  have key : (∀ i, i < 3 → okI c d x y z m i) ↔ okI c d x y z m 0 ∧ okI c d x y z m 1 ∧ okI c d x y z m 2 :=
    ⟨fun h => ⟨h 0 (by omega), h 1 (by omega), h 2 (by omega)⟩, fun h i hi => by
      obtain rfl | rfl | rfl : i = 0 ∨ i = 1 ∨ i = 2 := by omega
      · exact h.1
      · exact h.2.1
      · exact h.2.2⟩
  rw [key]
  unfold inI at hx hy hz
  obtain rfl | rfl | rfl | rfl | rfl | rfl | rfl | rfl | rfl | rfl | rfl := kind_cases h1 h2
  all_goals
    simp [okI, okP, nums, numsH, hsL, codeF, numF, lastF, List.range, List.range.loop]
    omega
/-- A configuration and an operation in two blocks of the call's own. -/
structure TwoAt (w W : World) (a b c d k x y z : Int) : Prop where
  cfg : Arr4 W w.heap.size 39 a b c d
  op : Arr4 W (w.heap.size + 1) 26 k x y z
  old : Below w.heap.size w W
theorem TwoAt.on {w W W' : World} {a b c d k x y z : Int} (h : TwoAt w W a b c d k x y z) (hb : Below W.heap.size W W') : TwoAt w W' a b c d k x y z := ⟨h.cfg.below hb, h.op.below hb, belowOn h.old hb⟩
theorem TwoAt.new (w : World) (a b c d k x y z : Int) : TwoAt w ((w.alloc (.cells #[.int .i64 a, .int .i64 b, .int .i64 c, .int .i64 d] 39)).alloc (.cells #[.int .i64 k, .int .i64 x, .int .i64 y, .int .i64 z] 26)) a b c d k x y z := by
  refine ⟨(Arr4.new w _ a b c d).below (below_new _ _), ?_, below_on (below_new w _) _⟩
  have := Arr4.new (w.alloc (.cells #[.int .i64 a, .int .i64 b, .int .i64 c, .int .i64 d] 39)) 26 k x y z
  rw [show (w.alloc (.cells #[.int .i64 a, .int .i64 b, .int .i64 c, .int .i64 d] 39)).heap.size = w.heap.size + 1 by simp] at this
  exact this
theorem refCheck_notRight (a b c d k x y z : Int) (hr : ¬ Right a b c d) (w : World) :
    Calls Tryz.prog 18 #[.agg #[.int .i64 a, .int .i64 b, .int .i64 c, .int .i64 d], .agg #[.int .i64 k, .int .i64 x, .int .i64 y, .int .i64 z]] w fun e w' => e = .returned (.int .i64 1) ∧ Below w.heap.size w w' := by
  have H0 := Lib.hid (TwoAt.new w a b c d k x y z)
  have HC := Lib.hid (refRight_wrong a b c d hr)
  clear hr
  go_enter Tryz.func18, Tryz.ntmps18
  go_wp2_with fail
  refine (HC.out _).mono ?_
  rintro e W ⟨rfl, hW⟩
  have H1 := Lib.hid (H0.out.on hW)
  clear H0 HC hW
  go_wp2_with fail
  go_ret
  exact ⟨rfl, H1.out.old⟩
theorem refCheck_notKind (a b c d k x y z : Int) (hr : Right a b c d) (hk : ¬ okK k) (w : World) :
    Calls Tryz.prog 18 #[.agg #[.int .i64 a, .int .i64 b, .int .i64 c, .int .i64 d], .agg #[.int .i64 k, .int .i64 x, .int .i64 y, .int .i64 z]] w fun e w' => e = .returned (.int .i64 4) ∧ Below w.heap.size w w' := by
  have H0 := Lib.hid (TwoAt.new w a b c d k x y z)
  have HC := Lib.hid (refRight_right a b c d hr)
  have HK := Lib.hid (refName_no k hk)
  clear hr hk
  go_enter Tryz.func18, Tryz.ntmps18
  go_wp2_with fail
  refine (HC.out _).mono ?_
  rintro e W ⟨rfl, hW⟩
  have H1 := Lib.hid (H0.out.on hW)
  obtain ⟨o0, _, _, _, _⟩ := H1.out.op.cells
  clear H0 HC hW
  go_wp2_with fail
  refine (HK.out _).mono ?_
  rintro e W2 ⟨rfl, rfl⟩
  clear HK
  go_wp2_with fail
  go_ret
  exact ⟨rfl, H1.out.old⟩
theorem nmL_ne {m : Nat} (h1 : 1 ≤ m) (h2 : m ≤ 11) : nmL m ≠ [] := by
  obtain rfl | rfl | rfl | rfl | rfl | rfl | rfl | rfl | rfl | rfl | rfl := kind_cases h1 h2
  all_goals decide
set_option maxHeartbeats 6400000 in
theorem refCheck_kind (a b c d : Int) (m : Nat) (h1 : 1 ≤ m) (h2 : m ≤ 11) (x y z : Int) (hx : inI x) (hy : inI y) (hz : inI z) (hr : Right a b c d) (w : World) :
    Calls Tryz.prog 18 #[.agg #[.int .i64 a, .int .i64 b, .int .i64 c, .int .i64 d], .agg #[.int .i64 (m : Int), .int .i64 x, .int .i64 y, .int .i64 z]] w fun e w' => e = .returned (.int .i64 (if ∀ p ∈ nums m x y z, okP c d p then 0 else 2)) ∧ Below w.heap.size w w' := by
  have HV0 : Hid ((∀ i, i < 3 → okI c d x y z m i) → (if ∀ p ∈ nums m x y z, okP c d p then 0 else 2 : Int) = 0) := Lib.hid (fun h => if_pos ((ok_same h1 h2 c d x y z hx hy hz).1 h))
  have HV2 : Hid ((¬ ∀ i, i < 3 → okI c d x y z m i) → (if ∀ p ∈ nums m x y z, okP c d p then 0 else 2 : Int) = 2) := Lib.hid (fun h => if_neg (fun h' => h ((ok_same h1 h2 c d x y z hx hy hz).2 h')))
  generalize (if ∀ p ∈ nums m x y z, okP c d p then 0 else 2 : Int) = V at *
  have H0 := Lib.hid (TwoAt.new w a b c d m x y z)
  have HC := Lib.hid (refRight_right a b c d hr)
  have HK := Lib.hid (refName_yes m h1 h2)
  have HP := Lib.hid (refPart_yes m h1 h2)
  have hnm : (nmL m == []) = false := by have := nmL_ne h1 h2; simpa using this
  have HM := Lib.hid (refNumber_c (m : Int) x y z)
  clear hr h1 h2 hx hy hz
  generalize nmL m = nm at *
  go_enter Tryz.func18, Tryz.ntmps18
  go_wp2_with fail
  refine (HC.out _).mono ?_
  rintro e W ⟨rfl, hW⟩
  have H1 := Lib.hid (H0.out.on hW)
  obtain ⟨o0, _, _, _, _⟩ := H1.out.op.cells
  clear H0 HC hW
  go_wp2_with fail
  refine (HK.out _).mono ?_
  rintro e W2 ⟨rfl, rfl⟩
  clear HK o0
  go_wp2_with fail
  go_loopw [5] (fun vi wr => ∃ k : Nat, vi = .int .i64 k ∧ k ≤ 3 ∧ Hid (∀ i, i < k → okI c d x y z m i) ∧ Hid (TwoAt w wr a b c d m x y z)) (fun vi _ => 3 - (intOf vi).toNat)
  case atStart => exact ⟨0, rfl, by omega, Lib.hid (fun i hi => by omega), H1⟩
  case round =>
    clear H1
    obtain ⟨k, rfl, hk, HI, HT⟩ := hrel
    by_cases hlt : k < 3
    · obtain ⟨o0, o1, o2, o3, _⟩ := HT.out.op.cells
      go_wp2_with fail
      refine (HM.out k hlt _).mono ?_
      rintro e W1 ⟨rfl, hW1⟩
      have HT1 := Lib.hid (HT.out.on hW1)
      clear o0 o1 o2 o3 HT hW1
      obtain ⟨o0, _, _, _, _⟩ := HT1.out.op.cells
      go_wp2_with fail
      refine (HP.out k hlt _).mono ?_
      rintro e W2 ⟨rfl, rfl⟩
      obtain ⟨c0, c1, c2, c3, _⟩ := HT1.out.cfg.cells
      have HY : Hid (okI c d x y z m k → ∀ i, i < k + 1 → okI c d x y z m i) := Lib.hid (fun h i hi => by
        by_cases e : i < k
        · exact HI.out i e
        · obtain rfl : i = k := by omega
          exact h)
      have HN : Hid ((¬ okI c d x y z m k) → V = 2) := Lib.hid (fun h => HV2.out (fun h' => h (h' k hlt)))
      have hcc := codeF_cases m k
      unfold okI at HY HN
      clear o0 HI
      generalize codeF m k = cf at *
      generalize numF x y z k = n at *
      obtain rfl | rfl | rfl | rfl := hcc
      · have HY1 := Lib.hid (HY.out ⟨by simp, by simp, by simp⟩)
        clear HY HN
        go_wp2
        go_roundw
        case rel => exact ⟨k + 1, by go_num, by omega, HY1, HT1⟩
        case measure => simp [intOf]; omega
      · by_cases hn : n < 0
        · have HN1 := Lib.hid (HN.out (fun h => by have := h.1 (by simp); omega))
          clear HY HN
          go_wp2
          go_ret
          rw [HN1.out]
          exact ⟨rfl, HT1.out.old⟩
        · by_cases hc' : n < c
          · have HY1 := Lib.hid (HY.out ⟨fun _ => by omega, fun _ => hc', by simp⟩)
            have hq : decide (c ≤ n) = false := decide_eq_false (by omega)
            clear HY HN
            go_wp2
            go_roundw
            case rel => exact ⟨k + 1, by go_num, by omega, HY1, HT1⟩
            case measure => simp [intOf]; omega
          · have HN1 := Lib.hid (HN.out (fun h => by have := h.2.1 rfl; omega))
            have hq : decide (c ≤ n) = true := decide_eq_true (by omega)
            clear HY HN
            go_wp2
            go_ret
            rw [HN1.out]
            exact ⟨rfl, HT1.out.old⟩
      · by_cases hn : n < 0
        · have HN1 := Lib.hid (HN.out (fun h => by have := h.1 (by simp); omega))
          clear HY HN
          go_wp2
          go_ret
          rw [HN1.out]
          exact ⟨rfl, HT1.out.old⟩
        · by_cases hc' : n < d
          · have HY1 := Lib.hid (HY.out ⟨fun _ => by omega, by simp, fun _ => hc'⟩)
            have hq : decide (d ≤ n) = false := decide_eq_false (by omega)
            clear HY HN
            go_wp2
            go_roundw
            case rel => exact ⟨k + 1, by go_num, by omega, HY1, HT1⟩
            case measure => simp [intOf]; omega
          · have HN1 := Lib.hid (HN.out (fun h => by have := h.2.2 rfl; omega))
            have hq : decide (d ≤ n) = true := decide_eq_true (by omega)
            clear HY HN
            go_wp2
            go_ret
            rw [HN1.out]
            exact ⟨rfl, HT1.out.old⟩
      · by_cases hn : n < 0
        · have HN1 := Lib.hid (HN.out (fun h => by have := h.1 (by simp); omega))
          clear HY HN
          go_wp2
          go_ret
          rw [HN1.out]
          exact ⟨rfl, HT1.out.old⟩
        · have HY1 := Lib.hid (HY.out ⟨fun _ => by omega, by simp, by simp⟩)
          clear HY HN
          go_wp2
          go_roundw
          case rel => exact ⟨k + 1, by go_num, by omega, HY1, HT1⟩
          case measure => simp [intOf]; omega
    · obtain rfl : k = 3 := by omega
      have HV := Lib.hid (HV0.out HI.out)
      clear HI HV0 HV2
      go_wp2
      go_ret
      rw [HV.out]
      exact ⟨rfl, HT.out.old⟩
theorem refCheck_c (a b c d k x y z : Int) (hx : inI x) (hy : inI y) (hz : inI z) (w : World) :
    Calls Tryz.prog 18 #[.agg #[.int .i64 a, .int .i64 b, .int .i64 c, .int .i64 d], .agg #[.int .i64 k, .int .i64 x, .int .i64 y, .int .i64 z]] w fun e w' => e = .returned (.int .i64 (checkF a b c d k x y z)) ∧ Below w.heap.size w w' := by
  unfold checkF
  by_cases hr : Right a b c d
  · rw [if_pos hr]
    by_cases hk : okK k
    · rw [if_pos hk]
      obtain ⟨m, rfl, h1, h2⟩ := hk.nat
      exact refCheck_kind a b c d m h1 h2 x y z hx hy hz hr w
    · rw [if_neg hk]
      exact refCheck_notKind a b c d k x y z hr hk w
  · rw [if_neg hr]
    exact refCheck_notRight a b c d k x y z hr w
end Go.Proofs.YtbpkdihonemogaaGreatDoor
/- Rows of words in memory, and an arena; sync/atomic's Uint64 (Load, Store, CompareAndSwap, Add) in one goroutine; package arena's Len, has, Load, Store, Cas and Add, for an arena and for a nil one, at every place. -/
namespace Go.Proofs.YtbpkdihonemogaaGreatDoor
open Go Go.RowKit
set_option maxRecDepth 100000

theorem newBlock (w : World) (o : Obj) : (w.alloc o).heap[w.heap.size]? = some o := by unfold World.alloc; exact Array.getElem?_push_size

/-- What a place holds then. -/
def upd (f : Nat → Int) (j : Nat) (x : Int) : Nat → Int := fun i => if i = j then x else f i
/-- A sum, round the word. -/
def sumW (a b : Int) : Int := (a + b) % 18446744073709551616
/-- A number that a word can be. -/
def U64 (x : Int) : Prop := 0 ≤ x ∧ x < 18446744073709551616
theorem sumW_u64 (a b : Int) : U64 (sumW a b) := ⟨Int.emod_nonneg _ (by decide), Int.emod_lt_of_pos _ (by decide)⟩
theorem wrap_sum (a b : Int) : IntKind.u64.wrap (a + b) = sumW a b := by rw [IntKind.wrap_u64]; rfl
theorem wrap_back {a : Int} (h : U64 a) (b : Int) : IntKind.u64.wrap (sumW a b - b) = a := by
  unfold sumW U64 at *; rw [IntKind.wrap_u64]; omega
/-- Words f 0, f 1, .. lie at the first n places of block R. -/
def RowAt (w : World) (R : Nat) (t : TypeId) (n : Nat) (f : Nat → Int) : Prop :=
  ∃ c : Array Value, w.heap[R]? = some (.cells c t (0, 0)) ∧ n ≤ c.size ∧ ∀ j, j < n → c[j]? = some (.int .u64 (f j))
namespace RowAt
variable {w w' : World} {R : Nat} {t : TypeId} {n : Nat} {f g : Nat → Int}
theorem cell (h : RowAt w R t n f) {j : Nat} (hj : j < n) : w.cell? ⟨R, j, none⟩ = some (.int .u64 (f j)) := by
  obtain ⟨c, hb, _, hc⟩ := h; simp [World.cell?, hb, hc j hj]
theorem frozen (h : RowAt w R t n f) (j : Nat) : w.frozen? ⟨R, j, none⟩ = false := by
  obtain ⟨c, hb, _, _⟩ := h; simp [World.frozen?, hb]
theorem lt (h : RowAt w R t n f) : R < w.heap.size := by
  obtain ⟨c, hb, _, _⟩ := h; exact (Array.getElem?_eq_some_iff.1 hb).1
theorem congr (h : RowAt w R t n f) (e : ∀ j, j < n → f j = g j) : RowAt w R t n g := by
  obtain ⟨c, hb, hn, hc⟩ := h; exact ⟨c, hb, hn, fun j hj => by rw [hc j hj, e j hj]⟩
theorem other (h : RowAt w R t n f) (e : w'.heap[R]? = w.heap[R]?) : RowAt w' R t n f := by
  obtain ⟨c, hb, hn, hc⟩ := h; exact ⟨c, e.trans hb, hn, hc⟩
theorem below (h : RowAt w R t n f) (hb : Below w.heap.size w w') : RowAt w' R t n f := h.other (hb.block _ h.lt)
theorem set (h : RowAt w R t n f) (p : Nat) (x : Int) : RowAt (w.setCell ⟨R, p, none⟩ (.int .u64 x)) R t n (upd f p x) := by
  obtain ⟨c, hb, hn, hc⟩ := h
  refine ⟨c.setIfInBounds p (.int .u64 x), by simp [World.setCell, Array.getElem?_modify, hb], by simpa using hn, fun j hj => ?_⟩
  rw [Array.getElem?_setIfInBounds]
  unfold upd
  by_cases e : j = p
  · subst e; rw [if_pos rfl, if_pos rfl, if_pos (by omega)]
  · rw [if_neg (fun h => e h.symm), if_neg e, hc j hj]
theorem setOther (h : RowAt w R t n f) {p : Addr} (hp : p.block ≠ R) (v : Value) : RowAt (w.setCell p v) R t n f := h.other (Below.heap_setCell _ _ _ _ (fun e => hp e.symm))
end RowAt
theorem RowAt.made (w : World) (n : Nat) (t : TypeId) : RowAt (w.alloc (.cells (madeCells #[.int .u64 0] n) t)) w.heap.size t n (fun _ => 0) :=
  ⟨_, newBlock _ _, by rw [size_madeCells]; exact Nat.le_refl _, fun j hj => by simp [madeCells, hj, Nat.mod_one]⟩
/-- An arena at A: its words lie in block G. -/
structure ArenaAt (w : World) (A G n : Nat) (f : Nat → Int) : Prop where
  ne : A ≠ G
  box : w.heap[A]? = some (.cells #[.slice (some ⟨G, 0, none⟩) n n] 95 (0, 0))
  row : RowAt w G 92 n f
  le : n ≤ 4611686018427387904
namespace ArenaAt
variable {w w' : World} {A G n : Nat} {f g : Nat → Int}
theorem cell (h : ArenaAt w A G n f) : w.cell? ⟨A, 0, none⟩ = some (.slice (some ⟨G, 0, none⟩) n n) := by simp [World.cell?, h.box]
theorem lt (h : ArenaAt w A G n f) : A < w.heap.size := (Array.getElem?_eq_some_iff.1 h.box).1
theorem other (h : ArenaAt w A G n f) (e1 : w'.heap[A]? = w.heap[A]?) (e2 : w'.heap[G]? = w.heap[G]?) : ArenaAt w' A G n f := ⟨h.ne, e1.trans h.box, h.row.other e2, h.le⟩
theorem below (h : ArenaAt w A G n f) (hb : Below w.heap.size w w') : ArenaAt w' A G n f := h.other (hb.block _ h.lt) (hb.block _ h.row.lt)
theorem set (h : ArenaAt w A G n f) (p : Nat) (x : Int) : ArenaAt (w.setCell ⟨G, p, none⟩ (.int .u64 x)) A G n (upd f p x) :=
  ⟨h.ne, (Below.heap_setCell _ _ _ _ h.ne).trans h.box, h.row.set p x, h.le⟩
theorem setOther (h : ArenaAt w A G n f) {p : Addr} (h1 : p.block ≠ A) (h2 : p.block ≠ G) (v : Value) : ArenaAt (w.setCell p v) A G n f :=
  h.other (Below.heap_setCell _ _ _ _ (fun e => h1 e.symm)) (Below.heap_setCell _ _ _ _ (fun e => h2 e.symm))
theorem congr (h : ArenaAt w A G n f) (e : ∀ j, j < n → f j = g j) : ArenaAt w A G n g := ⟨h.ne, h.box, h.row.congr e, h.le⟩
end ArenaAt

section
variable {a : Addr}
theorem aLoad_c (b j : Nat) (x : Int) (w : World) (hc : w.cell? ⟨b, j, none⟩ = some (.int .u64 x)) :
    Calls Tryz.prog 52 #[.pointer (some ⟨b, j, none⟩)] w fun e w' => e = .returned (.int .u64 x) ∧ w = w' := by
  have h := run_call_load (P := Tryz.prog) Tryz.func81 (by kernel_rfl) (by kernel_rfl) (by kernel_rfl) .u64 (by kernel_rfl) hc
  go_enter Tryz.func52, Tryz.ntmps52
  go_wp2
  go_ret
  exact ⟨rfl, rfl⟩
theorem aStore_c (b j : Nat) (x y : Int) (w : World) (hc : w.cell? ⟨b, j, none⟩ = some (.int .u64 x)) (hz : w.frozen? ⟨b, j, none⟩ = false) :
    Calls Tryz.prog 122 #[.pointer (some ⟨b, j, none⟩), .int .u64 y] w fun e w' => e = .returned (.tuple #[]) ∧ w' = w.setCell ⟨b, j, none⟩ (.int .u64 y) := by
  have h := run_call_store (P := Tryz.prog) Tryz.func137 (by kernel_rfl) (by kernel_rfl) (by kernel_rfl) (by kernel_rfl) (k := .u64) (y := y) hc hz
  go_enter Tryz.func122, Tryz.ntmps122
  go_wp2
  go_end0
  exact ⟨rfl, rfl⟩
theorem aCas_hit (b j : Nat) (x y : Int) (w : World) (hc : w.cell? ⟨b, j, none⟩ = some (.int .u64 x)) (hz : w.frozen? ⟨b, j, none⟩ = false) :
    Calls Tryz.prog 142 #[.pointer (some ⟨b, j, none⟩), .int .u64 x, .int .u64 y] w fun e w' => e = .returned (.bool true) ∧ w' = w.setCell ⟨b, j, none⟩ (.int .u64 y) := by
  have h := run_call_cas_hit (P := Tryz.prog) Tryz.func144 (by kernel_rfl) (by kernel_rfl) (by kernel_rfl) .u64 (by kernel_rfl) (y := y) hc hz
  go_enter Tryz.func142, Tryz.ntmps142
  go_wp2
  go_ret
  exact ⟨rfl, rfl⟩
theorem aCas_miss (b j : Nat) (x o y : Int) (hne : ¬ x = o) (w : World) (hc : w.cell? ⟨b, j, none⟩ = some (.int .u64 x)) (hz : w.frozen? ⟨b, j, none⟩ = false) :
    Calls Tryz.prog 142 #[.pointer (some ⟨b, j, none⟩), .int .u64 o, .int .u64 y] w fun e w' => e = .returned (.bool false) ∧ w = w' := by
  have h := run_call_cas_miss (P := Tryz.prog) Tryz.func144 (by kernel_rfl) (by kernel_rfl) (by kernel_rfl) .u64 (by kernel_rfl) (o := o) (y := y) hc hz hne
  go_enter Tryz.func142, Tryz.ntmps142
  go_wp2
  go_ret
  exact ⟨rfl, rfl⟩
theorem aAdd_c (b j : Nat) (x y : Int) (w : World) (hc : w.cell? ⟨b, j, none⟩ = some (.int .u64 x)) (hz : w.frozen? ⟨b, j, none⟩ = false) :
    Calls Tryz.prog 143 #[.pointer (some ⟨b, j, none⟩), .int .u64 y] w fun e w' => e = .returned (.int .u64 (sumW x y)) ∧ w' = w.setCell ⟨b, j, none⟩ (.int .u64 (sumW x y)) := by
  have h := run_call_add (P := Tryz.prog) Tryz.func145 (by kernel_rfl) (by kernel_rfl) (by kernel_rfl) .u64 (by kernel_rfl) (y := y) (s := sumW x y) hc hz (by simp [go_sem, wrap_sum])
  generalize sumW x y = s at *
  go_enter Tryz.func143, Tryz.ntmps143
  go_wp2
  go_ret
  exact ⟨rfl, rfl⟩
end

theorem Len_nil (w : World) : Calls Tryz.prog 62 #[.pointer none] w fun e w' => e = .returned (.int .i64 0) ∧ w = w' := by
  go_enter Tryz.func62, Tryz.ntmps62
  go_wp2
  go_ret
  exact ⟨rfl, rfl⟩
theorem Len_c {A G n : Nat} {f : Nat → Int} {w : World} (hA : ArenaAt w A G n f) :
    Calls Tryz.prog 62 #[.pointer (some ⟨A, 0, none⟩)] w fun e w' => e = .returned (.int .i64 n) ∧ w = w' := by
  have hc := hA.cell
  clear hA
  go_enter Tryz.func62, Tryz.ntmps62
  go_wp2
  go_ret
  exact ⟨rfl, rfl⟩
theorem has_nil (i : Int) (w : World) : Calls Tryz.prog 51 #[.pointer none, .int .i64 i] w fun e w' => e = .returned (.bool false) ∧ w = w' := by
  by_cases h : 0 ≤ i
  · have hd : decide (i < 0) = false := by simp; omega
    go_enter Tryz.func51, Tryz.ntmps51
    go_wp2_with fail
    refine (Len_nil _).mono ?_
    rintro e w' ⟨rfl, rfl⟩
    go_wp2_with fail
    go_ret
    exact ⟨rfl, rfl⟩
  · go_enter Tryz.func51, Tryz.ntmps51
    go_wp2_with fail
    go_ret
    exact ⟨rfl, rfl⟩
theorem has_c {A G n : Nat} {f : Nat → Int} {w : World} (hA : ArenaAt w A G n f) (i : Int) :
    Calls Tryz.prog 51 #[.pointer (some ⟨A, 0, none⟩), .int .i64 i] w fun e w' => e = .returned (.bool (decide (0 ≤ i ∧ i < n))) ∧ w = w' := by
  have HL := Lib.hid (Len_c hA)
  clear hA
  by_cases h : 0 ≤ i
  · by_cases h2 : i < n
    · have e : decide (0 ≤ i ∧ i < n) = true := by simp; omega
      rw [e]; clear e
      go_enter Tryz.func51, Tryz.ntmps51
      go_wp2_with fail
      refine HL.out.mono ?_
      rintro e w' ⟨rfl, rfl⟩
      go_wp2_with fail
      go_ret
      exact ⟨rfl, rfl⟩
    · have e : decide (0 ≤ i ∧ i < n) = false := by simp; omega
      have hd : decide (i < (n : Int)) = false := by simp; omega
      rw [e]; clear e
      go_enter Tryz.func51, Tryz.ntmps51
      go_wp2_with fail
      refine HL.out.mono ?_
      rintro e w' ⟨rfl, rfl⟩
      go_wp2_with fail
      go_ret
      exact ⟨rfl, rfl⟩
  · have e : decide (0 ≤ i ∧ i < n) = false := by simp; omega
    rw [e]; clear e
    go_enter Tryz.func51, Tryz.ntmps51
    go_wp2_with fail
    go_ret
    exact ⟨rfl, rfl⟩
theorem has_in {A G n : Nat} {f : Nat → Int} {w : World} (hA : ArenaAt w A G n f) {i : Int} (h : 0 ≤ i ∧ i < n) :
    Calls Tryz.prog 51 #[.pointer (some ⟨A, 0, none⟩), .int .i64 i] w fun e w' => e = .returned (.bool true) ∧ w = w' := by
  have := has_c hA i; rwa [decide_eq_true h] at this
/-- What a nil arena, or an arena at a place that isn't there, has in common: has answers false. -/
def NoPlace (w : World) (v : Value) (i : Int) : Prop :=
  Calls Tryz.prog 51 #[v, .int .i64 i] w fun e w' => e = .returned (.bool false) ∧ w = w'
theorem noPlace_nil (w : World) (i : Int) : NoPlace w (.pointer none) i := has_nil i w
theorem noPlace_out {A G n : Nat} {f : Nat → Int} {w : World} (hA : ArenaAt w A G n f) {i : Int} (h : ¬ (0 ≤ i ∧ i < n)) : NoPlace w (.pointer (some ⟨A, 0, none⟩)) i := by
  have := has_c hA i; rwa [decide_eq_false h] at this
theorem Load_out {w : World} {p : Option Addr} {i : Int} (h : NoPlace w (.pointer p) i) :
    Calls Tryz.prog 23 #[.pointer p, .int .i64 i] w fun e w' => e = .returned (.int .u64 0) ∧ w = w' := by
  have H := Lib.hid h; clear h
  go_enter Tryz.func23, Tryz.ntmps23
  go_wp2_with fail
  refine H.out.mono ?_
  rintro e w' ⟨rfl, rfl⟩
  go_wp2_with fail
  go_ret
  exact ⟨rfl, rfl⟩
theorem Store_out {w : World} {p : Option Addr} {i : Int} (h : NoPlace w (.pointer p) i) (x : Int) :
    Calls Tryz.prog 86 #[.pointer p, .int .i64 i, .int .u64 x] w fun e w' => e = .returned (.tuple #[]) ∧ w = w' := by
  have H := Lib.hid h; clear h
  go_enter Tryz.func86, Tryz.ntmps86
  go_wp2_with fail
  refine H.out.mono ?_
  rintro e w' ⟨rfl, rfl⟩
  go_wp2_with fail
  go_end0
  exact ⟨rfl, rfl⟩
theorem Cas_out {w : World} {p : Option Addr} {i : Int} (h : NoPlace w (.pointer p) i) (x y : Int) :
    Calls Tryz.prog 140 #[.pointer p, .int .i64 i, .int .u64 x, .int .u64 y] w fun e w' => e = .returned (.bool false) ∧ w = w' := by
  have H := Lib.hid h; clear h
  go_enter Tryz.func140, Tryz.ntmps140
  go_wp2_with fail
  refine H.out.mono ?_
  rintro e w' ⟨rfl, rfl⟩
  go_wp2_with fail
  go_ret
  exact ⟨rfl, rfl⟩
theorem Add_out {w : World} {p : Option Addr} {i : Int} (h : NoPlace w (.pointer p) i) (x : Int) :
    Calls Tryz.prog 141 #[.pointer p, .int .i64 i, .int .u64 x] w fun e w' => e = .returned (.int .u64 0) ∧ w = w' := by
  have H := Lib.hid h; clear h
  go_enter Tryz.func141, Tryz.ntmps141
  go_wp2_with fail
  refine H.out.mono ?_
  rintro e w' ⟨rfl, rfl⟩
  go_wp2_with fail
  go_ret
  exact ⟨rfl, rfl⟩
theorem Load_in {A G n : Nat} {f : Nat → Int} {w : World} (hA : ArenaAt w A G n f) (k : Nat) (hk : k < n) :
    Calls Tryz.prog 23 #[.pointer (some ⟨A, 0, none⟩), .int .i64 k] w fun e w' => e = .returned (.int .u64 (f k)) ∧ w = w' := by
  have H := Lib.hid (has_in hA (i := k) (by omega))
  have HX := Lib.hid (aLoad_c G k (f k) w (hA.row.cell hk))
  have hc := hA.cell
  have hle := hA.le
  generalize f k = x at *
  clear hA
  go_enter Tryz.func23, Tryz.ntmps23
  go_wp2_with fail
  refine H.out.mono ?_
  rintro e w' ⟨rfl, rfl⟩
  go_wp2_with fail
  refine HX.out.mono ?_
  rintro e w' ⟨rfl, rfl⟩
  go_wp2_with fail
  go_ret
  exact ⟨rfl, rfl⟩
theorem Store_in {A G n : Nat} {f : Nat → Int} {w : World} (hA : ArenaAt w A G n f) (k : Nat) (hk : k < n) (x : Int) :
    Calls Tryz.prog 86 #[.pointer (some ⟨A, 0, none⟩), .int .i64 k, .int .u64 x] w fun e w' => e = .returned (.tuple #[]) ∧ w' = w.setCell ⟨G, k, none⟩ (.int .u64 x) := by
  have H := Lib.hid (has_in hA (i := k) (by omega))
  have HX := Lib.hid (aStore_c G k (f k) x w (hA.row.cell hk) (hA.row.frozen k))
  have hc := hA.cell
  have hle := hA.le
  clear hA
  go_enter Tryz.func86, Tryz.ntmps86
  go_wp2_with fail
  refine H.out.mono ?_
  rintro e w' ⟨rfl, rfl⟩
  go_wp2_with fail
  refine HX.out.mono ?_
  rintro e w' ⟨rfl, rfl⟩
  go_wp2_with fail
  go_end0
  exact ⟨rfl, rfl⟩
theorem Cas_hit {A G n : Nat} {f : Nat → Int} {w : World} (hA : ArenaAt w A G n f) (k : Nat) (hk : k < n) (y : Int) :
    Calls Tryz.prog 140 #[.pointer (some ⟨A, 0, none⟩), .int .i64 k, .int .u64 (f k), .int .u64 y] w fun e w' => e = .returned (.bool true) ∧ w' = w.setCell ⟨G, k, none⟩ (.int .u64 y) := by
  have H := Lib.hid (has_in hA (i := k) (by omega))
  have HX := Lib.hid (aCas_hit G k (f k) y w (hA.row.cell hk) (hA.row.frozen k))
  have hc := hA.cell
  have hle := hA.le
  generalize f k = x at *
  clear hA
  go_enter Tryz.func140, Tryz.ntmps140
  go_wp2_with fail
  refine H.out.mono ?_
  rintro e w' ⟨rfl, rfl⟩
  go_wp2_with fail
  refine HX.out.mono ?_
  rintro e w' ⟨rfl, rfl⟩
  go_wp2_with fail
  go_ret
  exact ⟨rfl, rfl⟩
theorem Cas_miss {A G n : Nat} {f : Nat → Int} {w : World} (hA : ArenaAt w A G n f) (k : Nat) (hk : k < n) (x y : Int) (hne : ¬ f k = x) :
    Calls Tryz.prog 140 #[.pointer (some ⟨A, 0, none⟩), .int .i64 k, .int .u64 x, .int .u64 y] w fun e w' => e = .returned (.bool false) ∧ w = w' := by
  have H := Lib.hid (has_in hA (i := k) (by omega))
  have HX := Lib.hid (aCas_miss G k (f k) x y hne w (hA.row.cell hk) (hA.row.frozen k))
  have hc := hA.cell
  have hle := hA.le
  clear hA hne
  go_enter Tryz.func140, Tryz.ntmps140
  go_wp2_with fail
  refine H.out.mono ?_
  rintro e w' ⟨rfl, rfl⟩
  go_wp2_with fail
  refine HX.out.mono ?_
  rintro e w' ⟨rfl, rfl⟩
  go_wp2_with fail
  go_ret
  exact ⟨rfl, rfl⟩
theorem Add_in {A G n : Nat} {f : Nat → Int} {w : World} (hA : ArenaAt w A G n f) (k : Nat) (hk : k < n) (hf : U64 (f k)) (x : Int) :
    Calls Tryz.prog 141 #[.pointer (some ⟨A, 0, none⟩), .int .i64 k, .int .u64 x] w fun e w' => e = .returned (.int .u64 (f k)) ∧ w' = w.setCell ⟨G, k, none⟩ (.int .u64 (sumW (f k) x)) := by
  have H := Lib.hid (has_in hA (i := k) (by omega))
  have HX := Lib.hid (aAdd_c G k (f k) x w (hA.row.cell hk) (hA.row.frozen k))
  have hc := hA.cell
  have hle := hA.le
  have hw := wrap_back hf x
  generalize sumW (f k) x = s at *
  generalize f k = y at *
  clear hA hf
  go_enter Tryz.func141, Tryz.ntmps141
  go_wp2_with fail
  refine H.out.mono ?_
  rintro e w' ⟨rfl, rfl⟩
  go_wp2_with fail
  refine HX.out.mono ?_
  rintro e w' ⟨rfl, rfl⟩
  go_wp2_with fail
  go_ret
  exact ⟨rfl, rfl⟩
end Go.Proofs.YtbpkdihonemogaaGreatDoor
