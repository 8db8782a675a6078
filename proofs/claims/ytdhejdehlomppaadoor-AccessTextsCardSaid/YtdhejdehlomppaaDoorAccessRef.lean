/- The document's answer for the text of an access, for every configuration and every access. -/
import Derived.Test.YtdhejdehlomppaaDoorAccessText
import Derived.Test.YtdhejdehlomppaaDoorPlaceRefName
import Derived.Test.YtdhejdehlomppaaDoorWordRefText
namespace Go.Proofs.YtdhejdehlomppaaDoor
open Go Go.RowKit
set_option maxRecDepth 100000
attribute [local go_sem ↓] Go.wp_at_zero Go.wp_at_succ

theorem BothAt.newC (w : World) (a b c d k p x y o : Int) : BothAt w ((w.alloc (.cells #[.int .i64 a, .int .i64 b, .int .i64 c, .int .i64 d] 23)).alloc (.cells #[.int .i64 k, .int .i64 p, .int .u64 x, .int .u64 y, .int .u64 o] 33)) a b c d k p x y o := by
  have h2 := AccAt.new (w.alloc (.cells #[.int .i64 a, .int .i64 b, .int .i64 c, .int .i64 d] 23)) k p x y o 33
  rw [show (w.alloc (.cells #[.int .i64 a, .int .i64 b, .int .i64 c, .int .i64 d] 23)).heap.size = w.heap.size + 1 by simp] at h2
  exact .of ((BoxAt.new w a b c d 23).below (below_new _ _)) h2
/-- The name of a place that there isn't. -/
theorem refName_no (a b c d p : Int) (h : ¬ (0 ≤ p ∧ p < sizeP a b c d)) (w : World) :
    Calls Tryd.prog 14 #[.agg #[.int .i64 a, .int .i64 b, .int .i64 c, .int .i64 d], .int .i64 p] w fun e w' => e = .returned (.string ⟨#[]⟩) ∧ Below w.heap.size w w' := by
  by_cases hr : Right a b c d
  · rw [sizeP_right hr] at h; exact refName_out a b c d p hr h w
  · exact refName_wrong a b c d p hr w
theorem refName_yes (a b c d p : Int) (h0 : 0 ≤ p) (h1 : p < sizeP a b c d) (w : World) :
    Calls Tryd.prog 14 #[.agg #[.int .i64 a, .int .i64 b, .int .i64 c, .int .i64 d], .int .i64 p] w fun e w' => e = .returned (.string ⟨(nameOf (spotF b c d p)).toArray⟩) ∧ Below w.heap.size w w' := by
  have hr := right_of_size h0 h1
  rw [sizeP_right hr] at h1
  exact refName_right a b c d p hr h0 h1 w
theorem refText_out (a b c d k p x y o : Int) (h : ¬ (0 ≤ p ∧ p < sizeP a b c d)) (w : World) :
    Calls Tryd.prog 7 #[.agg #[.int .i64 a, .int .i64 b, .int .i64 c, .int .i64 d], accV k p x y o] w fun e w' => e = .returned (.string ⟨#[]⟩) ∧ Below w.heap.size w w' := by
  have HN := Lib.hid (refName_no a b c d p h)
  have HB := Lib.hid (below_on (below_new w (.cells #[.int .i64 a, .int .i64 b, .int .i64 c, .int .i64 d] 23)) (.cells #[.int .i64 k, .int .i64 p, .int .u64 x, .int .u64 y, .int .u64 o] 33))
  obtain ⟨x0, x1, x2, x3, y0, y1, y2, y3, y4⟩ := BothAt.newC w a b c d k p x y o
  clear h
  go_enter Tryd.func7, Tryd.ntmps7
  go_wp2_with fail
  refine (HN.out _).mono ?_
  rintro e W ⟨rfl, hW⟩
  have HB1 := Lib.hid (belowOn HB.out hW)
  clear hW
  go_wp2_with fail
  go_ret
  exact ⟨rfl, HB1.out⟩
set_option maxHeartbeats 3200000 in
theorem refText_kind (a b c d k p : Int) (x y o : Nat) (ho : o < 18446744073709551616) (h0 : 0 ≤ p) (h1 : p < sizeP a b c d) (hk : ¬ (1 ≤ k ∧ k ≤ 4)) (w : World) :
    Calls Tryd.prog 7 #[.agg #[.int .i64 a, .int .i64 b, .int .i64 c, .int .i64 d], accV k p x y o] w fun e w' => e = .returned (.string ⟨#[]⟩) ∧ Below w.heap.size w w' := by
  have HN := Lib.hid (refName_yes a b c d p h0 h1)
  have HB := Lib.hid (below_on (below_new w (.cells #[.int .i64 a, .int .i64 b, .int .i64 c, .int .i64 d] 23)) (.cells #[.int .i64 k, .int .i64 p, .int .u64 x, .int .u64 y, .int .u64 o] 33))
  have HBo := Lib.hid (BothAt.newC w a b c d k p x y o)
  obtain ⟨z, l, hz⟩ := name_some (right_of_size h0 h1) h0
  have hsh := name_short h0 h1
  have hso := textB_le o ho
  have HO := Lib.hid (refText_c o ho)
  rw [hz] at HN hsh
  have hq : ((z :: l) == []) = false := rfl
  obtain ⟨nm, HNM⟩ : ∃ nm, Hid (z :: l = nm) := ⟨_, Lib.hid rfl⟩
  have hz2 := hz
  rw [HNM.out] at HN hsh hz2 hq
  have HZ := Lib.hid hz2
  have q1 : (k == 1) = false := by simp; omega
  have q2 : (k == 2) = false := by simp; omega
  have q3 : (k == 3) = false := by simp; omega
  have q4 : (k == 4) = false := by simp; omega
  clear hk
  clear h0 h1 hz hz2 HNM
  obtain ⟨x0, x1, x2, x3, y0, y1, y2, y3, y4⟩ := HBo.out
  go_enter Tryd.func7, Tryd.ntmps7
  go_wp2_with fail
  refine (HN.out _).mono ?_
  rintro e W1 ⟨rfl, hW⟩
  have hB1 := belowOn HB.out hW
  have hX1 := HBo.out.below hW
  have HB1 := Lib.hid hB1; have HX1 := Lib.hid hX1
  clear hW x0 x1 x2 x3 y0 y1 y2 y3 y4 HBo HB hB1
  obtain ⟨x0, x1, x2, x3, y0, y1, y2, y3, y4⟩ := hX1
  go_wp2_with fail
  refine (HO.out _).mono ?_
  rintro e W2 ⟨rfl, hW⟩
  have HB2 := Lib.hid (belowOn HB1.out hW)
  have hX2 := HX1.out.below hW
  have HX2 := Lib.hid hX2
  clear hW x0 x1 x2 x3 y0 y1 y2 y3 y4 HX1 HB1
  obtain ⟨x0, x1, x2, x3, y0, y1, y2, y3, y4⟩ := hX2
  generalize hto : textB o = to at *
  go_wp2_with fail
  go_ret
  exact ⟨rfl, HB2.out⟩
set_option maxHeartbeats 3200000 in
theorem refText_load_x (a b c d p : Int) (x y o : Nat) (ho : o < 18446744073709551616) (h0 : 0 ≤ p) (h1 : p < sizeP a b c d) (hb : x ≠ 0) (w : World) :
    Calls Tryd.prog 7 #[.agg #[.int .i64 a, .int .i64 b, .int .i64 c, .int .i64 d], accV 1 p x y o] w fun e w' => e = .returned (.string ⟨#[]⟩) ∧ Below w.heap.size w w' := by
  have HN := Lib.hid (refName_yes a b c d p h0 h1)
  have HB := Lib.hid (below_on (below_new w (.cells #[.int .i64 a, .int .i64 b, .int .i64 c, .int .i64 d] 23)) (.cells #[.int .i64 1, .int .i64 p, .int .u64 x, .int .u64 y, .int .u64 o] 33))
  have HBo := Lib.hid (BothAt.newC w a b c d 1 p x y o)
  obtain ⟨z, l, hz⟩ := name_some (right_of_size h0 h1) h0
  have hsh := name_short h0 h1
  have hso := textB_le o ho
  have HO := Lib.hid (refText_c o ho)
  rw [hz] at HN hsh
  have hq : ((z :: l) == []) = false := rfl
  obtain ⟨nm, HNM⟩ : ∃ nm, Hid (z :: l = nm) := ⟨_, Lib.hid rfl⟩
  have hz2 := hz
  rw [HNM.out] at HN hsh hz2 hq
  have HZ := Lib.hid hz2
  have q1 : (((x : Nat) : Int) == 0) = false := by simp; omega
  clear hb
  clear h0 h1 hz hz2 HNM
  obtain ⟨x0, x1, x2, x3, y0, y1, y2, y3, y4⟩ := HBo.out
  go_enter Tryd.func7, Tryd.ntmps7
  go_wp2_with fail
  refine (HN.out _).mono ?_
  rintro e W1 ⟨rfl, hW⟩
  have hB1 := belowOn HB.out hW
  have hX1 := HBo.out.below hW
  have HB1 := Lib.hid hB1; have HX1 := Lib.hid hX1
  clear hW x0 x1 x2 x3 y0 y1 y2 y3 y4 HBo HB hB1
  obtain ⟨x0, x1, x2, x3, y0, y1, y2, y3, y4⟩ := hX1
  go_wp2_with fail
  refine (HO.out _).mono ?_
  rintro e W2 ⟨rfl, hW⟩
  have HB2 := Lib.hid (belowOn HB1.out hW)
  have hX2 := HX1.out.below hW
  have HX2 := Lib.hid hX2
  clear hW x0 x1 x2 x3 y0 y1 y2 y3 y4 HX1 HB1
  obtain ⟨x0, x1, x2, x3, y0, y1, y2, y3, y4⟩ := hX2
  generalize hto : textB o = to at *
  go_wp2_with fail
  go_ret
  exact ⟨rfl, HB2.out⟩
set_option maxHeartbeats 3200000 in
theorem refText_load_y (a b c d p : Int) (x y o : Nat) (ho : o < 18446744073709551616) (h0 : 0 ≤ p) (h1 : p < sizeP a b c d) (hb : x = 0 ∧ y ≠ 0) (w : World) :
    Calls Tryd.prog 7 #[.agg #[.int .i64 a, .int .i64 b, .int .i64 c, .int .i64 d], accV 1 p x y o] w fun e w' => e = .returned (.string ⟨#[]⟩) ∧ Below w.heap.size w w' := by
  have HN := Lib.hid (refName_yes a b c d p h0 h1)
  have HB := Lib.hid (below_on (below_new w (.cells #[.int .i64 a, .int .i64 b, .int .i64 c, .int .i64 d] 23)) (.cells #[.int .i64 1, .int .i64 p, .int .u64 x, .int .u64 y, .int .u64 o] 33))
  have HBo := Lib.hid (BothAt.newC w a b c d 1 p x y o)
  obtain ⟨z, l, hz⟩ := name_some (right_of_size h0 h1) h0
  have hsh := name_short h0 h1
  have hso := textB_le o ho
  have HO := Lib.hid (refText_c o ho)
  rw [hz] at HN hsh
  have hq : ((z :: l) == []) = false := rfl
  obtain ⟨nm, HNM⟩ : ∃ nm, Hid (z :: l = nm) := ⟨_, Lib.hid rfl⟩
  have hz2 := hz
  rw [HNM.out] at HN hsh hz2 hq
  have HZ := Lib.hid hz2
  obtain ⟨rfl, hb⟩ := hb
  have q1 : (((y : Nat) : Int) == 0) = false := by simp; omega
  clear hb
  clear h0 h1 hz hz2 HNM
  obtain ⟨x0, x1, x2, x3, y0, y1, y2, y3, y4⟩ := HBo.out
  go_enter Tryd.func7, Tryd.ntmps7
  go_wp2_with fail
  refine (HN.out _).mono ?_
  rintro e W1 ⟨rfl, hW⟩
  have hB1 := belowOn HB.out hW
  have hX1 := HBo.out.below hW
  have HB1 := Lib.hid hB1; have HX1 := Lib.hid hX1
  clear hW x0 x1 x2 x3 y0 y1 y2 y3 y4 HBo HB hB1
  obtain ⟨x0, x1, x2, x3, y0, y1, y2, y3, y4⟩ := hX1
  go_wp2_with fail
  refine (HO.out _).mono ?_
  rintro e W2 ⟨rfl, hW⟩
  have HB2 := Lib.hid (belowOn HB1.out hW)
  have hX2 := HX1.out.below hW
  have HX2 := Lib.hid hX2
  clear hW x0 x1 x2 x3 y0 y1 y2 y3 y4 HX1 HB1
  obtain ⟨x0, x1, x2, x3, y0, y1, y2, y3, y4⟩ := hX2
  generalize hto : textB o = to at *
  go_wp2_with fail
  go_ret
  exact ⟨rfl, HB2.out⟩
set_option maxHeartbeats 3200000 in
theorem refText_store_y (a b c d p : Int) (x y o : Nat) (ho : o < 18446744073709551616) (h0 : 0 ≤ p) (h1 : p < sizeP a b c d) (hb : y ≠ 0) (w : World) :
    Calls Tryd.prog 7 #[.agg #[.int .i64 a, .int .i64 b, .int .i64 c, .int .i64 d], accV 2 p x y o] w fun e w' => e = .returned (.string ⟨#[]⟩) ∧ Below w.heap.size w w' := by
  have HN := Lib.hid (refName_yes a b c d p h0 h1)
  have HB := Lib.hid (below_on (below_new w (.cells #[.int .i64 a, .int .i64 b, .int .i64 c, .int .i64 d] 23)) (.cells #[.int .i64 2, .int .i64 p, .int .u64 x, .int .u64 y, .int .u64 o] 33))
  have HBo := Lib.hid (BothAt.newC w a b c d 2 p x y o)
  obtain ⟨z, l, hz⟩ := name_some (right_of_size h0 h1) h0
  have hsh := name_short h0 h1
  have hso := textB_le o ho
  have HO := Lib.hid (refText_c o ho)
  rw [hz] at HN hsh
  have hq : ((z :: l) == []) = false := rfl
  obtain ⟨nm, HNM⟩ : ∃ nm, Hid (z :: l = nm) := ⟨_, Lib.hid rfl⟩
  have hz2 := hz
  rw [HNM.out] at HN hsh hz2 hq
  have HZ := Lib.hid hz2
  have q1 : (((y : Nat) : Int) == 0) = false := by simp; omega
  clear hb
  clear h0 h1 hz hz2 HNM
  obtain ⟨x0, x1, x2, x3, y0, y1, y2, y3, y4⟩ := HBo.out
  go_enter Tryd.func7, Tryd.ntmps7
  go_wp2_with fail
  refine (HN.out _).mono ?_
  rintro e W1 ⟨rfl, hW⟩
  have hB1 := belowOn HB.out hW
  have hX1 := HBo.out.below hW
  have HB1 := Lib.hid hB1; have HX1 := Lib.hid hX1
  clear hW x0 x1 x2 x3 y0 y1 y2 y3 y4 HBo HB hB1
  obtain ⟨x0, x1, x2, x3, y0, y1, y2, y3, y4⟩ := hX1
  go_wp2_with fail
  refine (HO.out _).mono ?_
  rintro e W2 ⟨rfl, hW⟩
  have HB2 := Lib.hid (belowOn HB1.out hW)
  have hX2 := HX1.out.below hW
  have HX2 := Lib.hid hX2
  clear hW x0 x1 x2 x3 y0 y1 y2 y3 y4 HX1 HB1
  obtain ⟨x0, x1, x2, x3, y0, y1, y2, y3, y4⟩ := hX2
  generalize hto : textB o = to at *
  go_wp2_with fail
  go_ret
  exact ⟨rfl, HB2.out⟩
set_option maxHeartbeats 3200000 in
theorem refText_add_y (a b c d p : Int) (x y o : Nat) (ho : o < 18446744073709551616) (h0 : 0 ≤ p) (h1 : p < sizeP a b c d) (hb : y ≠ 0) (w : World) :
    Calls Tryd.prog 7 #[.agg #[.int .i64 a, .int .i64 b, .int .i64 c, .int .i64 d], accV 4 p x y o] w fun e w' => e = .returned (.string ⟨#[]⟩) ∧ Below w.heap.size w w' := by
  have HN := Lib.hid (refName_yes a b c d p h0 h1)
  have HB := Lib.hid (below_on (below_new w (.cells #[.int .i64 a, .int .i64 b, .int .i64 c, .int .i64 d] 23)) (.cells #[.int .i64 4, .int .i64 p, .int .u64 x, .int .u64 y, .int .u64 o] 33))
  have HBo := Lib.hid (BothAt.newC w a b c d 4 p x y o)
  obtain ⟨z, l, hz⟩ := name_some (right_of_size h0 h1) h0
  have hsh := name_short h0 h1
  have hso := textB_le o ho
  have HO := Lib.hid (refText_c o ho)
  rw [hz] at HN hsh
  have hq : ((z :: l) == []) = false := rfl
  obtain ⟨nm, HNM⟩ : ∃ nm, Hid (z :: l = nm) := ⟨_, Lib.hid rfl⟩
  have hz2 := hz
  rw [HNM.out] at HN hsh hz2 hq
  have HZ := Lib.hid hz2
  have q1 : (((y : Nat) : Int) == 0) = false := by simp; omega
  clear hb
  clear h0 h1 hz hz2 HNM
  obtain ⟨x0, x1, x2, x3, y0, y1, y2, y3, y4⟩ := HBo.out
  go_enter Tryd.func7, Tryd.ntmps7
  go_wp2_with fail
  refine (HN.out _).mono ?_
  rintro e W1 ⟨rfl, hW⟩
  have hB1 := belowOn HB.out hW
  have hX1 := HBo.out.below hW
  have HB1 := Lib.hid hB1; have HX1 := Lib.hid hX1
  clear hW x0 x1 x2 x3 y0 y1 y2 y3 y4 HBo HB hB1
  obtain ⟨x0, x1, x2, x3, y0, y1, y2, y3, y4⟩ := hX1
  go_wp2_with fail
  refine (HO.out _).mono ?_
  rintro e W2 ⟨rfl, hW⟩
  have HB2 := Lib.hid (belowOn HB1.out hW)
  have hX2 := HX1.out.below hW
  have HX2 := Lib.hid hX2
  clear hW x0 x1 x2 x3 y0 y1 y2 y3 y4 HX1 HB1
  obtain ⟨x0, x1, x2, x3, y0, y1, y2, y3, y4⟩ := hX2
  generalize hto : textB o = to at *
  go_wp2_with fail
  go_ret
  exact ⟨rfl, HB2.out⟩
theorem bytes_load (n t : List UInt8) : (⟨#[108, 111, 97, 100, 32]⟩ : ByteArray) ++ ⟨n.toArray⟩ ++ (⟨#[32, 119, 97, 115, 32]⟩ ++ ⟨t.toArray⟩) = ⟨(Lib.join [[108, 111, 97, 100], n, [119, 97, 115], t] [32]).toArray⟩ := by
  apply ByteArray.ext; rw [Lib.join_cons]; simp [ByteArray.data_append, Lib.joinTail]
theorem bytes_store (n u t : List UInt8) : (⟨#[115, 116, 111, 114, 101, 32]⟩ : ByteArray) ++ ⟨n.toArray⟩ ++ ⟨#[32]⟩ ++ ⟨u.toArray⟩ ++ (⟨#[32, 119, 97, 115, 32]⟩ ++ ⟨t.toArray⟩) = ⟨(Lib.join [[115, 116, 111, 114, 101], n, u, [119, 97, 115], t] [32]).toArray⟩ := by
  apply ByteArray.ext; rw [Lib.join_cons]; simp [ByteArray.data_append, Lib.joinTail]
theorem bytes_add (n u t : List UInt8) : (⟨#[97, 100, 100, 32]⟩ : ByteArray) ++ ⟨n.toArray⟩ ++ ⟨#[32]⟩ ++ ⟨u.toArray⟩ ++ (⟨#[32, 119, 97, 115, 32]⟩ ++ ⟨t.toArray⟩) = ⟨(Lib.join [[97, 100, 100], n, u, [119, 97, 115], t] [32]).toArray⟩ := by
  apply ByteArray.ext; rw [Lib.join_cons]; simp [ByteArray.data_append, Lib.joinTail]
theorem bytes_cas (n u v t : List UInt8) : (⟨#[99, 97, 115, 32]⟩ : ByteArray) ++ ⟨n.toArray⟩ ++ ⟨#[32]⟩ ++ ⟨u.toArray⟩ ++ ⟨#[32]⟩ ++ ⟨v.toArray⟩ ++ (⟨#[32, 119, 97, 115, 32]⟩ ++ ⟨t.toArray⟩) = ⟨(Lib.join [[99, 97, 115], n, u, v, [119, 97, 115], t] [32]).toArray⟩ := by
  apply ByteArray.ext; rw [Lib.join_cons]; simp [ByteArray.data_append, Lib.joinTail]
set_option maxHeartbeats 3200000 in
theorem refText_load (a b c d p : Int) (o : Nat) (ho : o < 18446744073709551616) (h0 : 0 ≤ p) (h1 : p < sizeP a b c d) (w : World) :
    Calls Tryd.prog 7 #[.agg #[.int .i64 a, .int .i64 b, .int .i64 c, .int .i64 d], accV 1 p 0 0 o] w fun e w' => e = .returned (.string ⟨(accT b c d 1 p 0 0 o).toArray⟩) ∧ Below w.heap.size w w' := by
  have HN := Lib.hid (refName_yes a b c d p h0 h1)
  have HB := Lib.hid (below_on (below_new w (.cells #[.int .i64 a, .int .i64 b, .int .i64 c, .int .i64 d] 23)) (.cells #[.int .i64 1, .int .i64 p, .int .u64 0, .int .u64 0, .int .u64 o] 33))
  have HBo := Lib.hid (BothAt.newC w a b c d 1 p 0 0 o)
  obtain ⟨z, l, hz⟩ := name_some (right_of_size h0 h1) h0
  have hsh := name_short h0 h1
  have hso := textB_le o ho
  have HO := Lib.hid (refText_c o ho)
  rw [hz] at HN hsh
  have hq : ((z :: l) == []) = false := rfl
  obtain ⟨nm, HNM⟩ : ∃ nm, Hid (z :: l = nm) := ⟨_, Lib.hid rfl⟩
  have hz2 := hz
  rw [HNM.out] at HN hsh hz2 hq
  have HZ := Lib.hid hz2
  clear h0 h1 hz hz2 HNM
  obtain ⟨x0, x1, x2, x3, y0, y1, y2, y3, y4⟩ := HBo.out
  go_enter Tryd.func7, Tryd.ntmps7
  go_wp2_with fail
  refine (HN.out _).mono ?_
  rintro e W1 ⟨rfl, hW⟩
  have hB1 := belowOn HB.out hW
  have hX1 := HBo.out.below hW
  have HB1 := Lib.hid hB1; have HX1 := Lib.hid hX1
  clear hW x0 x1 x2 x3 y0 y1 y2 y3 y4 HBo HB hB1
  obtain ⟨x0, x1, x2, x3, y0, y1, y2, y3, y4⟩ := hX1
  go_wp2_with fail
  refine (HO.out _).mono ?_
  rintro e W2 ⟨rfl, hW⟩
  have HB2 := Lib.hid (belowOn HB1.out hW)
  have hX2 := HX1.out.below hW
  have HX2 := Lib.hid hX2
  clear hW x0 x1 x2 x3 y0 y1 y2 y3 y4 HX1 HB1
  obtain ⟨x0, x1, x2, x3, y0, y1, y2, y3, y4⟩ := hX2
  generalize hto : textB o = to at *
  go_wp2_with fail
  go_ret
  refine ⟨?_, HB2.out⟩
  rw [show accT b c d 1 p 0 0 o = Lib.join [[108, 111, 97, 100], nm, [119, 97, 115], to] [32] by unfold accT accL; rw [HZ.out, hto]; rfl, ← bytes_load]
  rfl
set_option maxHeartbeats 3200000 in
theorem refText_store (a b c d p : Int) (x o : Nat) (hx : x < 18446744073709551616) (ho : o < 18446744073709551616) (h0 : 0 ≤ p) (h1 : p < sizeP a b c d) (w : World) :
    Calls Tryd.prog 7 #[.agg #[.int .i64 a, .int .i64 b, .int .i64 c, .int .i64 d], accV 2 p x 0 o] w fun e w' => e = .returned (.string ⟨(accT b c d 2 p x 0 o).toArray⟩) ∧ Below w.heap.size w w' := by
  have HN := Lib.hid (refName_yes a b c d p h0 h1)
  have HB := Lib.hid (below_on (below_new w (.cells #[.int .i64 a, .int .i64 b, .int .i64 c, .int .i64 d] 23)) (.cells #[.int .i64 2, .int .i64 p, .int .u64 x, .int .u64 0, .int .u64 o] 33))
  have HBo := Lib.hid (BothAt.newC w a b c d 2 p x 0 o)
  obtain ⟨z, l, hz⟩ := name_some (right_of_size h0 h1) h0
  have hsh := name_short h0 h1
  have hso := textB_le o ho
  have HO := Lib.hid (refText_c o ho)
  rw [hz] at HN hsh
  have hq : ((z :: l) == []) = false := rfl
  obtain ⟨nm, HNM⟩ : ∃ nm, Hid (z :: l = nm) := ⟨_, Lib.hid rfl⟩
  have hz2 := hz
  rw [HNM.out] at HN hsh hz2 hq
  have HZ := Lib.hid hz2
  have hsx := textB_le x hx
  have HX := Lib.hid (refText_c x hx)
  clear h0 h1 hz hz2 HNM
  obtain ⟨x0, x1, x2, x3, y0, y1, y2, y3, y4⟩ := HBo.out
  go_enter Tryd.func7, Tryd.ntmps7
  go_wp2_with fail
  refine (HN.out _).mono ?_
  rintro e W1 ⟨rfl, hW⟩
  have hB1 := belowOn HB.out hW
  have hX1 := HBo.out.below hW
  have HB1 := Lib.hid hB1; have HX1 := Lib.hid hX1
  clear hW x0 x1 x2 x3 y0 y1 y2 y3 y4 HBo HB hB1
  obtain ⟨x0, x1, x2, x3, y0, y1, y2, y3, y4⟩ := hX1
  go_wp2_with fail
  refine (HO.out _).mono ?_
  rintro e W2 ⟨rfl, hW⟩
  have HB2 := Lib.hid (belowOn HB1.out hW)
  have hX2 := HX1.out.below hW
  have HX2 := Lib.hid hX2
  clear hW x0 x1 x2 x3 y0 y1 y2 y3 y4 HX1 HB1
  obtain ⟨x0, x1, x2, x3, y0, y1, y2, y3, y4⟩ := hX2
  generalize hto : textB o = to at *
  go_wp2_with fail
  refine (HX.out _).mono ?_
  rintro e W3 ⟨rfl, hW⟩
  have HB3 := Lib.hid (belowOn HB2.out hW)
  clear hW
  generalize htx : textB x = tx at *
  go_wp2_with fail
  go_ret
  refine ⟨?_, HB3.out⟩
  rw [show accT b c d 2 p x 0 o = Lib.join [[115, 116, 111, 114, 101], nm, tx, [119, 97, 115], to] [32] by unfold accT accL; rw [HZ.out, hto, ← htx]; rfl, ← bytes_store]
  rfl
set_option maxHeartbeats 3200000 in
theorem refText_add (a b c d p : Int) (x o : Nat) (hx : x < 18446744073709551616) (ho : o < 18446744073709551616) (h0 : 0 ≤ p) (h1 : p < sizeP a b c d) (w : World) :
    Calls Tryd.prog 7 #[.agg #[.int .i64 a, .int .i64 b, .int .i64 c, .int .i64 d], accV 4 p x 0 o] w fun e w' => e = .returned (.string ⟨(accT b c d 4 p x 0 o).toArray⟩) ∧ Below w.heap.size w w' := by
  have HN := Lib.hid (refName_yes a b c d p h0 h1)
  have HB := Lib.hid (below_on (below_new w (.cells #[.int .i64 a, .int .i64 b, .int .i64 c, .int .i64 d] 23)) (.cells #[.int .i64 4, .int .i64 p, .int .u64 x, .int .u64 0, .int .u64 o] 33))
  have HBo := Lib.hid (BothAt.newC w a b c d 4 p x 0 o)
  obtain ⟨z, l, hz⟩ := name_some (right_of_size h0 h1) h0
  have hsh := name_short h0 h1
  have hso := textB_le o ho
  have HO := Lib.hid (refText_c o ho)
  rw [hz] at HN hsh
  have hq : ((z :: l) == []) = false := rfl
  obtain ⟨nm, HNM⟩ : ∃ nm, Hid (z :: l = nm) := ⟨_, Lib.hid rfl⟩
  have hz2 := hz
  rw [HNM.out] at HN hsh hz2 hq
  have HZ := Lib.hid hz2
  have hsx := textB_le x hx
  have HX := Lib.hid (refText_c x hx)
  clear h0 h1 hz hz2 HNM
  obtain ⟨x0, x1, x2, x3, y0, y1, y2, y3, y4⟩ := HBo.out
  go_enter Tryd.func7, Tryd.ntmps7
  go_wp2_with fail
  refine (HN.out _).mono ?_
  rintro e W1 ⟨rfl, hW⟩
  have hB1 := belowOn HB.out hW
  have hX1 := HBo.out.below hW
  have HB1 := Lib.hid hB1; have HX1 := Lib.hid hX1
  clear hW x0 x1 x2 x3 y0 y1 y2 y3 y4 HBo HB hB1
  obtain ⟨x0, x1, x2, x3, y0, y1, y2, y3, y4⟩ := hX1
  go_wp2_with fail
  refine (HO.out _).mono ?_
  rintro e W2 ⟨rfl, hW⟩
  have HB2 := Lib.hid (belowOn HB1.out hW)
  have hX2 := HX1.out.below hW
  have HX2 := Lib.hid hX2
  clear hW x0 x1 x2 x3 y0 y1 y2 y3 y4 HX1 HB1
  obtain ⟨x0, x1, x2, x3, y0, y1, y2, y3, y4⟩ := hX2
  generalize hto : textB o = to at *
  go_wp2_with fail
  refine (HX.out _).mono ?_
  rintro e W3 ⟨rfl, hW⟩
  have HB3 := Lib.hid (belowOn HB2.out hW)
  clear hW
  generalize htx : textB x = tx at *
  go_wp2_with fail
  go_ret
  refine ⟨?_, HB3.out⟩
  rw [show accT b c d 4 p x 0 o = Lib.join [[97, 100, 100], nm, tx, [119, 97, 115], to] [32] by unfold accT accL; rw [HZ.out, hto, ← htx]; rfl, ← bytes_add]
  rfl
abbrev WordsXY (w : World) (B : Nat) (x y : Int) : Prop := w.cell? ⟨B, 2, none⟩ = some (.int .u64 x) ∧ w.cell? ⟨B, 3, none⟩ = some (.int .u64 y)
theorem WordsXY.below {w w' : World} {B : Nat} {x y : Int} (h : WordsXY w B x y) (hb : Below w.heap.size w w') : WordsXY w' B x y := by
  have hl := lt_of_cell h.1
  exact ⟨(hb.cell (p := ⟨B, 2, none⟩) hl).trans h.1, (hb.cell (p := ⟨B, 3, none⟩) hl).trans h.2⟩
set_option maxHeartbeats 6400000 in
theorem refText_cas (a b c d p : Int) (x y o : Nat) (hx : x < 18446744073709551616) (hy : y < 18446744073709551616) (ho : o < 18446744073709551616) (h0 : 0 ≤ p) (h1 : p < sizeP a b c d) (w : World) :
    Calls Tryd.prog 7 #[.agg #[.int .i64 a, .int .i64 b, .int .i64 c, .int .i64 d], accV 3 p x y o] w fun e w' => e = .returned (.string ⟨(accT b c d 3 p x y o).toArray⟩) ∧ Below w.heap.size w w' := by
  have HN := Lib.hid (refName_yes a b c d p h0 h1)
  have HB := Lib.hid (below_on (below_new w (.cells #[.int .i64 a, .int .i64 b, .int .i64 c, .int .i64 d] 23)) (.cells #[.int .i64 3, .int .i64 p, .int .u64 x, .int .u64 y, .int .u64 o] 33))
  have HBo := Lib.hid (BothAt.newC w a b c d 3 p x y o)
  obtain ⟨z, l, hz⟩ := name_some (right_of_size h0 h1) h0
  have hsh := name_short h0 h1
  have hso := textB_le o ho
  have HO := Lib.hid (refText_c o ho)
  rw [hz] at HN hsh
  have hq : ((z :: l) == []) = false := rfl
  obtain ⟨nm, HNM⟩ : ∃ nm, Hid (z :: l = nm) := ⟨_, Lib.hid rfl⟩
  have hz2 := hz
  rw [HNM.out] at HN hsh hz2 hq
  have HZ := Lib.hid hz2
  have hsx := textB_le x hx
  have HX := Lib.hid (refText_c x hx)
  have hsy := textB_le y hy
  have HY := Lib.hid (refText_c y hy)
  clear h0 h1 hz hz2 HNM
  obtain ⟨x0, x1, x2, x3, y0, y1, y2, y3, y4⟩ := HBo.out
  go_enter Tryd.func7, Tryd.ntmps7
  go_wp2_with fail
  refine (HN.out _).mono ?_
  rintro e W1 ⟨rfl, hW⟩
  have hB1 := belowOn HB.out hW
  have hX1 := HBo.out.below hW
  have HB1 := Lib.hid hB1; have HX1 := Lib.hid hX1
  clear hW x0 x1 x2 x3 y0 y1 y2 y3 y4 HBo HB hB1
  obtain ⟨x0, x1, x2, x3, y0, y1, y2, y3, y4⟩ := hX1
  go_wp2_with fail
  refine (HO.out _).mono ?_
  rintro e W2 ⟨rfl, hW⟩
  have HB2 := Lib.hid (belowOn HB1.out hW)
  have hX2 := HX1.out.below hW
  have HX2 := Lib.hid hX2
  clear hW x0 x1 x2 x3 y0 y1 y2 y3 y4 HX1 HB1
  obtain ⟨x0, x1, x2, x3, y0, y1, y2, y3, y4⟩ := hX2
  generalize hto : textB o = to at *
  generalize htx : textB x = tx at *
  generalize hty : textB y = ty at *
  have hQ : Below w.heap.size w W2.drew := HB2.out.drew
  have hXd : BothAt w W2.drew a b c d 3 p x y o := HX2.out
  have a0 : ∀ W, (Op.stringOp .add ((⟨#[99, 97, 115, 32]⟩ : ByteArray)) (⟨nm.toArray⟩ : ByteArray)).run Tryd.prog W = .ok (.string ((⟨#[99, 97, 115, 32]⟩ : ByteArray) ++ (⟨nm.toArray⟩ : ByteArray))) W := fun W => run_string_add_sum W _ _ (by simp [ByteArray.size]; omega)
  have a1 : ∀ W, (Op.stringOp .add (((⟨#[99, 97, 115, 32]⟩ : ByteArray) ++ (⟨nm.toArray⟩ : ByteArray))) (⟨#[32]⟩ : ByteArray)).run Tryd.prog W = .ok (.string (((⟨#[99, 97, 115, 32]⟩ : ByteArray) ++ (⟨nm.toArray⟩ : ByteArray)) ++ (⟨#[32]⟩ : ByteArray))) W := fun W => run_string_add_sum W _ _ (by simp [ByteArray.size]; omega)
  have a2 : ∀ W, (Op.stringOp .add ((((⟨#[99, 97, 115, 32]⟩ : ByteArray) ++ (⟨nm.toArray⟩ : ByteArray)) ++ (⟨#[32]⟩ : ByteArray))) (⟨tx.toArray⟩ : ByteArray)).run Tryd.prog W = .ok (.string ((((⟨#[99, 97, 115, 32]⟩ : ByteArray) ++ (⟨nm.toArray⟩ : ByteArray)) ++ (⟨#[32]⟩ : ByteArray)) ++ (⟨tx.toArray⟩ : ByteArray))) W := fun W => run_string_add_sum W _ _ (by simp [ByteArray.size]; omega)
  have a3 : ∀ W, (Op.stringOp .add (((((⟨#[99, 97, 115, 32]⟩ : ByteArray) ++ (⟨nm.toArray⟩ : ByteArray)) ++ (⟨#[32]⟩ : ByteArray)) ++ (⟨tx.toArray⟩ : ByteArray))) (⟨#[32]⟩ : ByteArray)).run Tryd.prog W = .ok (.string (((((⟨#[99, 97, 115, 32]⟩ : ByteArray) ++ (⟨nm.toArray⟩ : ByteArray)) ++ (⟨#[32]⟩ : ByteArray)) ++ (⟨tx.toArray⟩ : ByteArray)) ++ (⟨#[32]⟩ : ByteArray))) W := fun W => run_string_add_sum W _ _ (by simp [ByteArray.size]; omega)
  have a4 : ∀ W, (Op.stringOp .add ((((((⟨#[99, 97, 115, 32]⟩ : ByteArray) ++ (⟨nm.toArray⟩ : ByteArray)) ++ (⟨#[32]⟩ : ByteArray)) ++ (⟨tx.toArray⟩ : ByteArray)) ++ (⟨#[32]⟩ : ByteArray))) (⟨ty.toArray⟩ : ByteArray)).run Tryd.prog W = .ok (.string ((((((⟨#[99, 97, 115, 32]⟩ : ByteArray) ++ (⟨nm.toArray⟩ : ByteArray)) ++ (⟨#[32]⟩ : ByteArray)) ++ (⟨tx.toArray⟩ : ByteArray)) ++ (⟨#[32]⟩ : ByteArray)) ++ (⟨ty.toArray⟩ : ByteArray))) W := fun W => run_string_add_sum W _ _ (by simp [ByteArray.size]; omega)
  have a5 : ∀ W, (Op.stringOp .add (((((((⟨#[99, 97, 115, 32]⟩ : ByteArray) ++ (⟨nm.toArray⟩ : ByteArray)) ++ (⟨#[32]⟩ : ByteArray)) ++ (⟨tx.toArray⟩ : ByteArray)) ++ (⟨#[32]⟩ : ByteArray)) ++ (⟨ty.toArray⟩ : ByteArray))) ((⟨#[32, 119, 97, 115, 32]⟩ : ByteArray) ++ (⟨to.toArray⟩ : ByteArray))).run Tryd.prog W = .ok (.string (((((((⟨#[99, 97, 115, 32]⟩ : ByteArray) ++ (⟨nm.toArray⟩ : ByteArray)) ++ (⟨#[32]⟩ : ByteArray)) ++ (⟨tx.toArray⟩ : ByteArray)) ++ (⟨#[32]⟩ : ByteArray)) ++ (⟨ty.toArray⟩ : ByteArray)) ++ ((⟨#[32, 119, 97, 115, 32]⟩ : ByteArray) ++ (⟨to.toArray⟩ : ByteArray)))) W := fun W => run_string_add_sum W _ _ (by simp [ByteArray.size]; omega)
  clear HX2
  go_wp2_with fail
  go_region_held3 (fun w' => w'.cell? ⟨w.heap.size + 1, 2, none⟩ = some (.int .u64 x) ∧ w'.cell? ⟨w.heap.size + 1, 3, none⟩ = some (.int .u64 y)) (first | assumption | go_keep)
    (first
      | (go_at_call 15; (with_reducible refine (HX.out _).mono ?_); rintro e v ⟨rfl, hV⟩; have hXw := WordsXY.below (x := x) (y := y) (B := w.heap.size + 1) (by assumption) hV; have hQ := belowOn (w := w) (by assumption) hV; clear hV)
      | (go_at_call 15; (with_reducible refine (HY.out _).mono ?_); rintro e v ⟨rfl, hV⟩; have hXw := WordsXY.below (x := x) (y := y) (B := w.heap.size + 1) (by assumption) hV; have hQ := belowOn (w := w) (by assumption) hV; clear hV))
  all_goals go_wp2_with fail
  all_goals go_ret
  all_goals
    refine ⟨?_, by assumption⟩
    rw [show accT b c d 3 p x y o = Lib.join [[99, 97, 115], nm, tx, ty, [119, 97, 115], to] [32] by unfold accT accL; rw [HZ.out, hto, ← htx, ← hty]; rfl, ← bytes_cas]
    rfl
theorem refAcc_c (a b c d k p : Int) (x y o : Nat) (hx : x < 18446744073709551616) (hy : y < 18446744073709551616) (ho : o < 18446744073709551616) (w : World) :
    Calls Tryd.prog 7 #[.agg #[.int .i64 a, .int .i64 b, .int .i64 c, .int .i64 d], accV k p x y o] w fun e w' => e = .returned (.string ⟨(textF a b c d k p x y o).toArray⟩) ∧ Below w.heap.size w w' := by
  have no : ¬ RightA a b c d k p x y → textF a b c d k p x y o = [] := fun h => by unfold textF; rw [if_neg h]
  have yes : RightA a b c d k p x y → textF a b c d k p x y o = accT b c d k p x y o := fun h => by unfold textF; rw [if_pos h]
  by_cases hp : 0 ≤ p ∧ p < sizeP a b c d
  · by_cases hk : 1 ≤ k ∧ k ≤ 4
    · obtain rfl | rfl | rfl | rfl : k = 1 ∨ k = 2 ∨ k = 3 ∨ k = 4 := by omega
      · by_cases h1 : x = 0
        · by_cases h2 : y = 0
          · subst h1; subst h2
            rw [yes ⟨hk, hp, fun _ => rfl, fun _ => rfl⟩]
            exact refText_load a b c d p o ho hp.1 hp.2 w
          · rw [no (fun h => h2 (by have := h.2.2.2 (by decide); omega))]
            exact refText_load_y a b c d p x y o ho hp.1 hp.2 ⟨h1, h2⟩ w
        · rw [no (fun h => h1 (by have := h.2.2.1 (by decide); omega))]
          exact refText_load_x a b c d p x y o ho hp.1 hp.2 h1 w
      · by_cases h2 : y = 0
        · subst h2
          rw [yes ⟨hk, hp, fun h => absurd h (by decide), fun _ => rfl⟩]
          exact refText_store a b c d p x o hx ho hp.1 hp.2 w
        · rw [no (fun h => h2 (by have := h.2.2.2 (by decide); omega))]
          exact refText_store_y a b c d p x y o ho hp.1 hp.2 h2 w
      · rw [yes ⟨hk, hp, fun h => absurd h (by decide), fun h => absurd h (by decide)⟩]
        exact refText_cas a b c d p x y o hx hy ho hp.1 hp.2 w
      · by_cases h2 : y = 0
        · subst h2
          rw [yes ⟨hk, hp, fun h => absurd h (by decide), fun _ => rfl⟩]
          exact refText_add a b c d p x o hx ho hp.1 hp.2 w
        · rw [no (fun h => h2 (by have := h.2.2.2 (by decide); omega))]
          exact refText_add_y a b c d p x y o ho hp.1 hp.2 h2 w
    · rw [no (fun h => hk h.1)]
      exact refText_kind a b c d k p x y o ho hp.1 hp.2 hk w
  · rw [no (fun h => hp h.2.1)]
    exact refText_out a b c d k p x y o hp w
end Go.Proofs.YtdhejdehlomppaaDoor
