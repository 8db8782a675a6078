/- OpChecks: it answers true for every configuration, every operation and every number (the law of P8.1 and P8.3), in whatever memory in which the listed variables read as their texts lay them. -/
import Derived.Test.YtaiioflhkmflgaaDoorOpChecksA
namespace Go.Proofs.YtaiioflhkmflgaaDoor
open Go Go.RowKit Go.Shelf
attribute [local go_sem] Oper.semAt_some
set_option maxRecDepth 100000

theorem Arr4.box {W : World} {B : Nat} {t : TypeId} {x0 x1 x2 x3 : Int} (h : Arr4 W B t x0 x1 x2 x3) : BoxAt W B x0 x1 x2 x3 := ⟨h.cells.1, h.cells.2.1, h.cells.2.2.1, h.cells.2.2.2.1⟩
theorem block_some {W W' : World} (h : Below W.heap.size W W') {D : Nat} {o : Obj} (e : W.heap[D]? = some o) : W'.heap[D]? = some o := (h.block D (Array.getElem?_eq_some_iff.1 e).1).trans e
theorem row_down {W : World} {base base' : Nat} {e : TypeId} {v : Value} {n : Nat} {xs : List Value} (h : W.ownsRow base e 1 v n xs) (hb : base' ≤ base) : W.ownsRow base' e 1 v n xs :=
  ⟨h.1, h.2.imp id (fun ⟨g, cap, cur, e1, e2, e3⟩ => ⟨g, cap, cur, e1, by omega, e3⟩)⟩
theorem row_form {W : World} {base : Nat} {e : TypeId} {v : Value} {n : Nat} {xs : List Value} (h : W.ownsRow base e 1 v n xs) : ∃ ad cap, v = .slice ad n cap := by
  rcases h.2 with ⟨rfl, h0⟩ | ⟨g, cap, cur, rfl, _⟩
  · exact ⟨none, 0, by rw [h0]⟩
  · exact ⟨_, _, rfl⟩
theorem ChksAt.put {w W : World} {B N : Nat} {v : Value} {a b c d k x y z : Int} {rl : List Int} {n : Nat} (h : ChksAt w W B N v a b c d k x y z rl n) (u : Value) :
    (BoxAt (W.setCell ⟨w.heap.size + 2, 0, none⟩ u) w.heap.size a b c d ∧ BoxAt (W.setCell ⟨w.heap.size + 2, 0, none⟩ u) (w.heap.size + 1) k x y z) ∧ (W.setCell ⟨w.heap.size + 2, 0, none⟩ u).cell? ⟨N, 0, none⟩ = some (.int .i64 (n : Int)) ∧ (W.setCell ⟨w.heap.size + 2, 0, none⟩ u).cell? ⟨B, 0, none⟩ = some v := by
  obtain ⟨b1, b2, _⟩ := h.bn
  exact ⟨⟨(h.cfg.other (Below.heap_setCell W _ _ _ (by simp))).box, (h.op.other (Below.heap_setCell W _ _ _ (by simp))).box⟩, (h.cnt.far (by omega) _).1, (h.want.far (by omega) _).1⟩
/-- The memory at the beginning. -/
structure ThreeAt (w W : World) (a b c d k x y z : Int) : Prop where
  cfg : Arr4 W w.heap.size 23 a b c d
  op : Arr4 W (w.heap.size + 1) 25 k x y z
  res : One W (w.heap.size + 2) (.bool false)
  old : Below w.heap.size w W
theorem ThreeAt.on {w W W' : World} {a b c d k x y z : Int} (h : ThreeAt w W a b c d k x y z) (hb : Below W.heap.size W W') : ThreeAt w W' a b c d k x y z := ⟨h.cfg.below hb, h.op.below hb, h.res.on hb, belowOn h.old hb⟩
theorem ThreeAt.new (w : World) (a b c d k x y z : Int) : ThreeAt w (((w.alloc (.cells #[.int .i64 a, .int .i64 b, .int .i64 c, .int .i64 d] 23)).alloc (.cells #[.int .i64 k, .int .i64 x, .int .i64 y, .int .i64 z] 25)).alloc (.cells #[.bool false] 4)) a b c d k x y z := by
  have h := TwoAt.new w a b c d k x y z
  have hb := below_new ((w.alloc (.cells #[.int .i64 a, .int .i64 b, .int .i64 c, .int .i64 d] 23)).alloc (.cells #[.int .i64 k, .int .i64 x, .int .i64 y, .int .i64 z] 25)) (.cells #[.bool false] 4)
  refine ⟨(h.on hb).cfg, (h.on hb).op, ?_, (h.on hb).old⟩
  have := One.new ((w.alloc (.cells #[.int .i64 a, .int .i64 b, .int .i64 c, .int .i64 d] 23)).alloc (.cells #[.int .i64 k, .int .i64 x, .int .i64 y, .int .i64 z] 25)) (.bool false) 4
  simpa using this
set_option maxHeartbeats 8000000 in
theorem checks_c (a b c d k x y z ret : Int) (hx : inI x) (hy : inI y) (hz : inI z) (w : World) (hS : SpansAt w) (hQ : ResAt w) (hL : LaidT w) :
    Calls Tryd.prog 3 #[.agg #[.int .i64 a, .int .i64 b, .int .i64 c, .int .i64 d], .agg #[.int .i64 k, .int .i64 x, .int .i64 y, .int .i64 z], .int .i64 ret] w fun e w' => e = .returned (.bool true) ∧ Below w.heap.size w w' := by
  have H0 := Lib.hid (ThreeAt.new w a b c d k x y z)
  have HA := Lib.hid (awake_c _ (hL.below H0.out.old))
  have HLs : Hid (∀ W, Below w.heap.size w W → SpansAt W) := Lib.hid (fun W h => hS.below h)
  have HLq : Hid (∀ W, Below w.heap.size w W → ResAt W) := Lib.hid (fun W h => hQ.below h)
  have HLt : Hid (∀ W, Below w.heap.size w W → LaidT W) := Lib.hid (fun W h => hL.below h)
  have HRg := Lib.hid (refRegs_c k x y z)
  have HC := Lib.hid (opCheck_c a b c d k x y z)
  have HRC := Lib.hid (refCheck_c a b c d k x y z hx hy hz)
  have HNm := Lib.hid (name_any k)
  have HRN := Lib.hid (refName_any k)
  have HRt := Lib.hid (ret_any ret)
  have HRR := Lib.hid (refRet_any ret)
  have HSeq : Hid (∀ (B : Nat) (W : World), Arr4 W B 25 k x y z → RowsAt W → SeqL 9 Fence.wide (20 - 1) Tryd.prog 23 #[.pointer (some ⟨B, 0, none⟩)] enc1 (regsL k x y z) W) := Lib.hid (fun B W h1 h2 => regs_seq 9 (by decide) (by decide) (20 - 1) (by decide) B k x y z W h1 h2)
  have hrl : (regsL k x y z).length ≤ 3 := by
    rw [← regsTo_all]; exact regsTo_len _ _ _ _ _
  clear hS hL hQ hx hy hz
  generalize checkF a b c d k x y z = CF at *
  generalize nmL k.toNat = nm at *
  generalize rtL ret.toNat = rt at *
  generalize regsL k x y z = rl at *
  refine (callsIn_wide (n := 20)).1 ?_
  refine callsIn_of_wp_marks Tryd.func3 rfl trivial ?_ rfl
  simp only [Tryd.ntmps3, List.size_toArray, List.length_cons, List.length_nil, Nat.reduceAdd, Nat.reduceSub, Array.replicate_succ, Array.replicate_zero, List.push_toArray, List.append_toArray, List.nil_append, List.cons_append]
  gi_wp2_with fail
  refine ⟨trivial, ?_⟩
  refine (callsIn_wide.2 HA.out).mono ?_
  rintro e W1 ⟨rfl, hW⟩
  have H1 := Lib.hid (H0.out.on hW)
  obtain ⟨o0, o1, o2, o3, _⟩ := H1.out.op.cells
  clear H0 HA hW
  gi_wp2_with fail
  refine ⟨trivial, ?_⟩
  refine (callsIn_wide.2 (HRg.out _)).mono ?_
  rintro e W2 ⟨v, rfl, hrow, hW⟩
  obtain ⟨ad, cap, rfl⟩ := row_form hrow
  have H2 := Lib.hid (H1.out.on hW)
  have hz1 : w.heap.size + 3 ≤ W1.heap.size := H1.out.res.lt
  have hz2 : w.heap.size + 3 ≤ W2.heap.size := H2.out.res.lt
  have hrow' : W2.ownsRow (w.heap.size + 3) 3 1 (.slice ad rl.length cap) rl.length (rl.map intV) := row_down hrow hz1
  have hbW := below_on (below_new W2 (.cells #[.slice ad rl.length cap] 27)) (.cells #[.int .i64 0] 3)
  have hK3 : ChksAt w ((W2.alloc (.cells #[.slice ad rl.length cap] 27)).alloc (.cells #[.int .i64 0] 3)) W2.heap.size (W2.heap.size + 1) (.slice ad rl.length cap) a b c d k x y z rl 0 := by
    have h3 := H2.out.on hbW
    refine ⟨h3.cfg, h3.op, h3.res, (One.new W2 (.slice ad rl.length cap) 27).on (below_new _ _), ?_, ownsRow_below4 hrow' hbW, h3.old, ⟨by omega, by omega, by omega⟩, fun e => by have := (hrow'.lt _ e).2; omega⟩
    have := One.new (W2.alloc (.cells #[.slice ad rl.length cap] 27)) (.int .i64 0) 3
    simpa using this
  have HK3 := Lib.hid hK3
  clear hrow hrow' hW H1 H2 hK3 hbW HRg o0 o1 o2 o3
  obtain ⟨o0, o1, o2, o3, _⟩ := HK3.out.op.cells
  gi_wp2_with fail
  refine ⟨trivial, ?_⟩
  refine (callsIn_wide.2 (opRegs_c k x y z _)).mono ?_
  rintro e W4 ⟨rfl, hW4⟩
  have hzU : ((W2.alloc (.cells #[.slice ad rl.length cap] 27)).alloc (.cells #[.int .i64 0] 3)).heap.size = W2.heap.size + 2 := by simp
  clear o0 o1 o2 o3
  generalize (W2.alloc (.cells #[.slice ad rl.length cap] 27)).alloc (.cells #[.int .i64 0] 3) = U at *
  have hb4 : Below U.heap.size U W4 := by rw [hW4]; exact below_new _ _
  have hX4 : Arr4 W4 U.heap.size 25 k x y z := by rw [hW4]; exact Arr4.new _ _ _ _ _ _
  have hzW : W4.heap.size = W2.heap.size + 3 := by rw [hW4]; simp [hzU]
  have HK4 := Lib.hid (HK3.out.on hb4)
  have HS := Lib.hid (HSeq.out _ W4 hX4 (HLt.out _ HK4.out.old).rows)
  rw [hzU] at HS ⊢
  clear hb4 hX4 HK3 hW4 hzU HSeq
  generalize hN : W2.heap.size + 1 = N at *
  generalize hB : W2.heap.size = B at *
  gi_wp2
  refine wpIn_rangeL rfl (by decide) (gf := 23) (lb := #[.pointer (some ⟨B + 2, 0, none⟩)]) rfl trivial (enters_of Tryd.func23 (by kernel_rfl) rfl)
    HS.out (Below.refl _ _) (fun _ => rfl)
    (fun pre W' => ChksAt w W' B N (.slice ad rl.length cap) a b c d k x y z rl pre.length)
    (fun _ _ _ => False)
    (fun s A B row hs hg hrr => hs.own hg (fun r e => ⟨by have := (hrr r e).1; omega, (hrr r e).2⟩))
    (fun cc => fun s A B row hs hg hrr => hs)
    HK4.out
    (fun q => { tmps := #[.agg #[.int .i64 a, .int .i64 b, .int .i64 c, .int .i64 d], .agg #[.int .i64 k, .int .i64 x, .int .i64 y, .int .i64 z], .int .i64 ret, .pointer (some ⟨w.heap.size, 0, none⟩), .pointer (some ⟨w.heap.size + 1, 0, none⟩), undef, .pointer (some ⟨w.heap.size + 1 + 1, 0, none⟩), .pointer (some ⟨B, 0, none⟩), .pointer (some ⟨N, 0, none⟩), .int .i64 q, .bool true, .bool false,
      .agg #[.int .i64 k, .int .i64 x, .int .i64 y, .int .i64 z], .slice ad rl.length cap, .agg #[.int .i64 k, .int .i64 x, .int .i64 y, .int .i64 z], .func (.func 23) #[] #[.pointer (some ⟨B + 2, 0, none⟩)], .int .i64 q,
      undef, undef, undef, undef, undef, undef, undef, undef, undef, undef, undef, undef, undef, undef, undef, undef, undef, undef, undef, undef, undef, undef, undef, undef, undef, undef, undef, undef, undef, undef, undef, undef, undef, undef, undef, undef, undef, undef, undef, undef, undef, undef, undef], defers := [] }) ?assign ?body ?done ?stop
  case assign =>
    intro l' q W' K hK
    simp only [enc1]
    gi_wp2
    exact hK
  case body =>
    rintro l' pre q W' hC hpre
    have hat := prefix_at hpre
    obtain ⟨g, cap', hv, hget⟩ := hC.get hat
    have hlt : pre.length < rl.length := (List.getElem?_eq_some_iff.1 hat).1
    cases hv
    have HC := Lib.hid hC
    have hcn := HC.out.cnt.1; have hfn := HC.out.cnt.2; have hcw := HC.out.want.1
    clear hC hpre HS hat
    gi_wp2
    refine ⟨KeepsTop.of_grownBy (grownBy_setCell' W' _ _) (fun j e => by cases e; omega), ?_⟩
    have := HC.out.next
    simpa using this
  case done =>
    rintro D W' hD hC hK
    have HK := Lib.hid hC; have HD := Lib.hid hK
    clear hC hK HS HK4
    gi_wp2
    refine wpIn_wide.2 ?_
    have HK := Lib.hid (HK.out.on (Below.refl _ W').drew)
    have HD : Hid (W'.drew.heap[D]? = some (.deferred (some []))) := HD
    refine wp_region_noPanic ?_
    refine wp_region_held_drew (S := fun W' => (BoxAt W' w.heap.size a b c d ∧ BoxAt W' (w.heap.size + 1) k x y z) ∧ W'.cell? ⟨N, 0, none⟩ = some (.int .i64 (rl.length : Int)) ∧ W'.cell? ⟨B, 0, none⟩ = some (.slice ad rl.length cap)) (by kernel_rfl) ?_ (fun hHeld => ?_)
    · exact ⟨⟨(Arr4.box HK.out.cfg), (Arr4.box HK.out.op)⟩, HK.out.cnt.1, HK.out.want.1⟩
    refine wpAnyH_take (i := 0) (oi := { dst := some 31, op := Op.load 3 (Operand.tmp 8), type := 3, pos := "law.go:27", after := #[], guard := none }) (v := ?vc0) rfl (by kernel_rfl) (by kernel_rfl) (by kernel_rfl) (fun _ _ _ h => h) (Or.inl ⟨by rfl, ?hyc0⟩) hHeld ?_
    case hyc0 => (intro w hSw; (try dsimp only at hSw); go_simp; (try with_reducible rfl))
    try simp only [Act.put, List.setIfInBounds_toArray, List.set_cons_zero, List.set_cons_succ]
    refine wpAnyH_take (i := 1) (oi := { dst := some 32, op := Op.load 27 (Operand.tmp 7), type := 27, pos := "law.go:27", after := #[], guard := none }) (v := ?vc1) rfl (by kernel_rfl) (by kernel_rfl) (by kernel_rfl) (fun _ _ _ h => h) (Or.inl ⟨by rfl, ?hyc1⟩) hHeld ?_
    case hyc1 => (intro w hSw; (try dsimp only at hSw); go_simp; (try with_reducible rfl))
    try simp only [Act.put, List.setIfInBounds_toArray, List.set_cons_zero, List.set_cons_succ]
    refine wpAnyH_take (i := 2) (oi := { dst := some 33, op := Op.call { callee := Callee.builtin Builtin.len, args := #[Operand.tmp 32], argTypes := #[27] }, type := 3, pos := "law.go:27", after := #[{ on := 1, ground := Ground.data }], guard := none }) (v := ?vc2) rfl (by kernel_rfl) (by kernel_rfl) (by kernel_rfl) (fun _ _ _ h => h) (Or.inl ⟨by rfl, ?hyc2⟩) hHeld ?_
    case hyc2 => (intro w hSw; (try dsimp only at hSw); go_simp; (try with_reducible rfl))
    try simp only [Act.put, List.setIfInBounds_toArray, List.set_cons_zero, List.set_cons_succ]
    refine wpAnyH_take (i := 3) (oi := { dst := some 34, op := Op.binOp BinOp.eql 3 (Operand.tmp 31) (Operand.tmp 33) 3, type := 4, pos := "law.go:27", after := #[{ on := 0, ground := Ground.data }, { on := 2, ground := Ground.data }], guard := none }) (v := ?vc3) rfl (by kernel_rfl) (by kernel_rfl) (by kernel_rfl) (fun _ _ _ h => h) (Or.inl ⟨by rfl, ?hyc3⟩) hHeld ?_
    case hyc3 => (intro w hSw; (try dsimp only at hSw); go_simp; (try with_reducible rfl))
    try simp only [Act.put, List.setIfInBounds_toArray, List.set_cons_zero, List.set_cons_succ]
    refine wpAnyH_take (i := 4) (oi := { dst := some 35, op := Op.move (Operand.tmp 34), type := 4, pos := "law.go:27", after := #[{ on := 3, ground := Ground.data }], guard := none }) (v := ?vc4) rfl (by kernel_rfl) (by kernel_rfl) (by kernel_rfl) (fun _ _ _ h => h) (Or.inl ⟨by rfl, ?hyc4⟩) hHeld ?_
    case hyc4 => (intro w hSw; (try dsimp only at hSw); go_simp; (try with_reducible rfl))
    try simp only [Act.put, List.setIfInBounds_toArray, List.set_cons_zero, List.set_cons_succ]
    refine wpAnyH_take (i := 5) (oi := { dst := some 36, op := Op.load 23 (Operand.tmp 3), type := 23, pos := "law.go:27", after := #[{ on := 4, ground := Ground.guard }], guard := some (4, true) }) (v := ?vc5) rfl (by kernel_rfl) (by kernel_rfl) (by kernel_rfl) (fun _ _ _ h => h) (Or.inl ⟨by rfl, ?hyc5⟩) hHeld ?_
    case hyc5 => (intro w hSw; (try dsimp only at hSw); go_simp; (try with_reducible rfl))
    try simp only [Act.put, List.setIfInBounds_toArray, List.set_cons_zero, List.set_cons_succ]
    refine wpAnyH_take (i := 6) (oi := { dst := some 37, op := Op.load 25 (Operand.tmp 4), type := 25, pos := "law.go:27", after := #[{ on := 4, ground := Ground.guard }], guard := some (4, true) }) (v := ?vc6) rfl (by kernel_rfl) (by kernel_rfl) (by kernel_rfl) (fun _ _ _ h => h) (Or.inl ⟨by rfl, ?hyc6⟩) hHeld ?_
    case hyc6 => (intro w hSw; (try dsimp only at hSw); go_simp; (try with_reducible rfl))
    try simp only [Act.put, List.setIfInBounds_toArray, List.set_cons_zero, List.set_cons_succ]
    refine wpAnyH_take (i := 8) (oi := { dst := some 39, op := Op.load 23 (Operand.tmp 3), type := 23, pos := "law.go:27", after := #[{ on := 4, ground := Ground.guard }], guard := some (4, true) }) (v := ?vc8) rfl (by kernel_rfl) (by kernel_rfl) (by kernel_rfl) (fun _ _ _ h => h) (Or.inl ⟨by rfl, ?hyc8⟩) hHeld ?_
    case hyc8 => (intro w hSw; (try dsimp only at hSw); go_simp; (try with_reducible rfl))
    try simp only [Act.put, List.setIfInBounds_toArray, List.set_cons_zero, List.set_cons_succ]
    refine wpAnyH_take (i := 9) (oi := { dst := some 40, op := Op.load 25 (Operand.tmp 4), type := 25, pos := "law.go:27", after := #[{ on := 4, ground := Ground.guard }], guard := some (4, true) }) (v := ?vc9) rfl (by kernel_rfl) (by kernel_rfl) (by kernel_rfl) (fun _ _ _ h => h) (Or.inl ⟨by rfl, ?hyc9⟩) hHeld ?_
    case hyc9 => (intro w hSw; (try dsimp only at hSw); go_simp; (try with_reducible rfl))
    try simp only [Act.put, List.setIfInBounds_toArray, List.set_cons_zero, List.set_cons_succ]
    refine wpAnyH_ready (rs := [7]) (by kernel_rfl) (by simp) ?_
    refine AllReadyH.cons (o := { dst := some 38, op := Op.call { callee := Callee.value (Operand.func 10), args := #[Operand.tmp 36, Operand.tmp 37], argTypes := #[23, 25] }, type := 32, pos := "law.go:27", after := #[{ on := 5, ground := Ground.data }, { on := 6, ground := Ground.data }, { on := 4, ground := Ground.chain }, { on := 4, ground := Ground.guard }], guard := some (4, true) }) rfl (fun K hK => ?_) AllReadyH.nil
    go_simp
    refine (HC.out _ (HLs.out _ HK.out.old) (HLt.out _ HK.out.old).rows).mono ?_
    rintro e w1 ⟨rfl, hW⟩
    have HK := Lib.hid (HK.out.on hW)
    have HD := Lib.hid (block_some hW HD.out)
    clear hW
    refine hK.out _ _ ?_ (fun hHeld => ?_)
    · exact ⟨⟨(Arr4.box HK.out.cfg), (Arr4.box HK.out.op)⟩, HK.out.cnt.1, HK.out.want.1⟩
    clear hK K
    try simp only [Act.put, List.setIfInBounds_toArray, List.set_cons_zero, List.set_cons_succ]
    refine wpAnyH_ready (rs := [10]) (by kernel_rfl) (by simp) ?_
    refine AllReadyH.cons (o := { dst := some 41, op := Op.call { callee := Callee.value (Operand.func 11), args := #[Operand.tmp 39, Operand.tmp 40], argTypes := #[23, 25] }, type := 3, pos := "law.go:27", after := #[{ on := 8, ground := Ground.data }, { on := 9, ground := Ground.data }, { on := 7, ground := Ground.chain }, { on := 4, ground := Ground.guard }], guard := some (4, true) }) rfl (fun K hK => ?_) AllReadyH.nil
    go_simp
    refine (HRC.out _).mono ?_
    rintro e w1 ⟨rfl, hW⟩
    have HK := Lib.hid (HK.out.on hW)
    have HD := Lib.hid (block_some hW HD.out)
    clear hW
    refine hK.out _ _ ?_ (fun hHeld => ?_)
    · exact ⟨⟨(Arr4.box HK.out.cfg), (Arr4.box HK.out.op)⟩, HK.out.cnt.1, HK.out.want.1⟩
    clear hK K
    try simp only [Act.put, List.setIfInBounds_toArray, List.set_cons_zero, List.set_cons_succ]
    refine wpAnyH_take (i := 11) (oi := { dst := some 42, op := Op.binOp BinOp.eql 3 (Operand.tmp 38) (Operand.tmp 41) 3, type := 4, pos := "law.go:27", after := #[{ on := 7, ground := Ground.data }, { on := 10, ground := Ground.data }, { on := 4, ground := Ground.guard }], guard := some (4, true) }) (v := ?vc11) rfl (by kernel_rfl) (by kernel_rfl) (by kernel_rfl) (fun _ _ _ h => h) (Or.inl ⟨by rfl, ?hyc11⟩) hHeld ?_
    case hyc11 => (intro w hSw; (try dsimp only at hSw); go_simp; (try with_reducible rfl))
    try simp only [Act.put, List.setIfInBounds_toArray, List.set_cons_zero, List.set_cons_succ]
    refine wpAnyH_take (i := 12) (oi := { dst := some 43, op := Op.pick (Operand.tmp 35) (Operand.tmp 42) (Operand.const (Value.bool false)), type := 4, pos := "law.go:27", after := #[{ on := 4, ground := Ground.data }, { on := 11, ground := Ground.data }], guard := none }) (v := ?vc12) rfl (by kernel_rfl) (by kernel_rfl) (by kernel_rfl) (fun _ _ _ h => h) (Or.inl ⟨by rfl, ?hyc12⟩) hHeld ?_
    case hyc12 => (intro w hSw; (try dsimp only at hSw); go_simp; (try with_reducible rfl))
    try simp only [Act.put, List.setIfInBounds_toArray, List.set_cons_zero, List.set_cons_succ]
    refine wpAnyH_take (i := 13) (oi := { dst := some 44, op := Op.move (Operand.tmp 43), type := 4, pos := "law.go:27", after := #[{ on := 12, ground := Ground.data }, { on := 10, ground := Ground.chain }], guard := none }) (v := ?vc13) rfl (by kernel_rfl) (by kernel_rfl) (by kernel_rfl) (fun _ _ _ h => h) (Or.inl ⟨by rfl, ?hyc13⟩) hHeld ?_
    case hyc13 => (intro w hSw; (try dsimp only at hSw); go_simp; (try with_reducible rfl))
    try simp only [Act.put, List.setIfInBounds_toArray, List.set_cons_zero, List.set_cons_succ]
    refine wpAnyH_take (i := 14) (oi := { dst := some 45, op := Op.fieldAddr 25 (Operand.tmp 4) 0, type := 0, pos := "law.go:27", after := #[{ on := 13, ground := Ground.guard }], guard := some (13, true) }) (v := ?vc14) rfl (by kernel_rfl) (by kernel_rfl) (by kernel_rfl) (fun _ _ _ h => h) (Or.inl ⟨by rfl, ?hyc14⟩) hHeld ?_
    case hyc14 => (intro w hSw; (try dsimp only at hSw); go_simp; (try with_reducible rfl))
    try simp only [Act.put, List.setIfInBounds_toArray, List.set_cons_zero, List.set_cons_succ]
    refine wpAnyH_take (i := 15) (oi := { dst := some 46, op := Op.load 3 (Operand.tmp 45), type := 3, pos := "law.go:27", after := #[{ on := 14, ground := Ground.data }, { on := 13, ground := Ground.guard }], guard := some (13, true) }) (v := ?vc15) rfl (by kernel_rfl) (by kernel_rfl) (by kernel_rfl) (fun _ _ _ h => h) (Or.inl ⟨by rfl, ?hyc15⟩) hHeld ?_
    case hyc15 => (intro w hSw; (try dsimp only at hSw); go_simp; (try with_reducible rfl))
    try simp only [Act.put, List.setIfInBounds_toArray, List.set_cons_zero, List.set_cons_succ]
    refine wpAnyH_take (i := 17) (oi := { dst := some 48, op := Op.fieldAddr 25 (Operand.tmp 4) 0, type := 0, pos := "law.go:27", after := #[{ on := 13, ground := Ground.guard }], guard := some (13, true) }) (v := ?vc17) rfl (by kernel_rfl) (by kernel_rfl) (by kernel_rfl) (fun _ _ _ h => h) (Or.inl ⟨by rfl, ?hyc17⟩) hHeld ?_
    case hyc17 => (intro w hSw; (try dsimp only at hSw); go_simp; (try with_reducible rfl))
    try simp only [Act.put, List.setIfInBounds_toArray, List.set_cons_zero, List.set_cons_succ]
    refine wpAnyH_take (i := 18) (oi := { dst := some 49, op := Op.load 3 (Operand.tmp 48), type := 3, pos := "law.go:27", after := #[{ on := 17, ground := Ground.data }, { on := 13, ground := Ground.guard }], guard := some (13, true) }) (v := ?vc18) rfl (by kernel_rfl) (by kernel_rfl) (by kernel_rfl) (fun _ _ _ h => h) (Or.inl ⟨by rfl, ?hyc18⟩) hHeld ?_
    case hyc18 => (intro w hSw; (try dsimp only at hSw); go_simp; (try with_reducible rfl))
    try simp only [Act.put, List.setIfInBounds_toArray, List.set_cons_zero, List.set_cons_succ]
    refine wpAnyH_ready (rs := [16]) (by kernel_rfl) (by simp) ?_
    refine AllReadyH.cons (o := { dst := some 47, op := Op.call { callee := Callee.value (Operand.func 12), args := #[Operand.tmp 46], argTypes := #[3] }, type := 9, pos := "law.go:27", after := #[{ on := 15, ground := Ground.data }, { on := 13, ground := Ground.chain }, { on := 13, ground := Ground.guard }], guard := some (13, true) }) rfl (fun K hK => ?_) AllReadyH.nil
    go_simp
    refine (HNm.out _ (HLt.out _ HK.out.old).rows).mono ?_
    rintro e w1 ⟨rfl, hW⟩
    rw [hW] at HK HD
    clear hW
    refine hK.out _ _ ?_ (fun hHeld => ?_)
    · exact ⟨⟨(Arr4.box HK.out.cfg), (Arr4.box HK.out.op)⟩, HK.out.cnt.1, HK.out.want.1⟩
    clear hK K
    try simp only [Act.put, List.setIfInBounds_toArray, List.set_cons_zero, List.set_cons_succ]
    refine wpAnyH_ready (rs := [19]) (by kernel_rfl) (by simp) ?_
    refine AllReadyH.cons (o := { dst := some 50, op := Op.call { callee := Callee.value (Operand.func 13), args := #[Operand.tmp 49], argTypes := #[3] }, type := 9, pos := "law.go:27", after := #[{ on := 18, ground := Ground.data }, { on := 16, ground := Ground.chain }, { on := 13, ground := Ground.guard }], guard := some (13, true) }) rfl (fun K hK => ?_) AllReadyH.nil
    go_simp
    refine (HRN.out _).mono ?_
    rintro e w1 ⟨rfl, hW⟩
    rw [hW] at HK HD
    clear hW
    refine hK.out _ _ ?_ (fun hHeld => ?_)
    · exact ⟨⟨(Arr4.box HK.out.cfg), (Arr4.box HK.out.op)⟩, HK.out.cnt.1, HK.out.want.1⟩
    clear hK K
    try simp only [Act.put, List.setIfInBounds_toArray, List.set_cons_zero, List.set_cons_succ]
    refine wpAnyH_take (i := 20) (oi := { dst := some 51, op := Op.binOp BinOp.eql 9 (Operand.tmp 47) (Operand.tmp 50) 9, type := 4, pos := "law.go:27", after := #[{ on := 16, ground := Ground.data }, { on := 19, ground := Ground.data }, { on := 13, ground := Ground.guard }], guard := some (13, true) }) (v := ?vc20) rfl (by kernel_rfl) (by kernel_rfl) (by kernel_rfl) (fun _ _ _ h => h) (Or.inl ⟨by rfl, ?hyc20⟩) hHeld ?_
    case hyc20 => (intro w hSw; (try dsimp only at hSw); go_simp; (try with_reducible rfl))
    try simp only [Act.put, List.setIfInBounds_toArray, List.set_cons_zero, List.set_cons_succ]
    refine wpAnyH_take (i := 21) (oi := { dst := some 52, op := Op.pick (Operand.tmp 44) (Operand.tmp 51) (Operand.const (Value.bool false)), type := 4, pos := "law.go:27", after := #[{ on := 13, ground := Ground.data }, { on := 20, ground := Ground.data }], guard := none }) (v := ?vc21) rfl (by kernel_rfl) (by kernel_rfl) (by kernel_rfl) (fun _ _ _ h => h) (Or.inl ⟨by rfl, ?hyc21⟩) hHeld ?_
    case hyc21 => (intro w hSw; (try dsimp only at hSw); go_simp; (try with_reducible rfl))
    try simp only [Act.put, List.setIfInBounds_toArray, List.set_cons_zero, List.set_cons_succ]
    refine wpAnyH_take (i := 22) (oi := { dst := some 53, op := Op.move (Operand.tmp 52), type := 4, pos := "law.go:27", after := #[{ on := 21, ground := Ground.data }, { on := 19, ground := Ground.chain }], guard := none }) (v := ?vc22) rfl (by kernel_rfl) (by kernel_rfl) (by kernel_rfl) (fun _ _ _ h => h) (Or.inl ⟨by rfl, ?hyc22⟩) hHeld ?_
    case hyc22 => (intro w hSw; (try dsimp only at hSw); go_simp; (try with_reducible rfl))
    try simp only [Act.put, List.setIfInBounds_toArray, List.set_cons_zero, List.set_cons_succ]
    refine wpAnyH_take (i := 23) (oi := { dst := some 54, op := Op.move (Operand.tmp 2), type := 3, pos := "law.go:27", after := #[{ on := 22, ground := Ground.guard }], guard := some (22, true) }) (v := ?vc23) rfl (by kernel_rfl) (by kernel_rfl) (by kernel_rfl) (fun _ _ _ h => h) (Or.inl ⟨by rfl, ?hyc23⟩) hHeld ?_
    case hyc23 => (intro w hSw; (try dsimp only at hSw); go_simp; (try with_reducible rfl))
    try simp only [Act.put, List.setIfInBounds_toArray, List.set_cons_zero, List.set_cons_succ]
    refine wpAnyH_take (i := 25) (oi := { dst := some 56, op := Op.move (Operand.tmp 2), type := 3, pos := "law.go:27", after := #[{ on := 22, ground := Ground.guard }], guard := some (22, true) }) (v := ?vc25) rfl (by kernel_rfl) (by kernel_rfl) (by kernel_rfl) (fun _ _ _ h => h) (Or.inl ⟨by rfl, ?hyc25⟩) hHeld ?_
    case hyc25 => (intro w hSw; (try dsimp only at hSw); go_simp; (try with_reducible rfl))
    try simp only [Act.put, List.setIfInBounds_toArray, List.set_cons_zero, List.set_cons_succ]
    refine wpAnyH_ready (rs := [24]) (by kernel_rfl) (by simp) ?_
    refine AllReadyH.cons (o := { dst := some 55, op := Op.call { callee := Callee.value (Operand.func 14), args := #[Operand.tmp 54], argTypes := #[3] }, type := 9, pos := "law.go:27", after := #[{ on := 23, ground := Ground.data }, { on := 22, ground := Ground.chain }, { on := 22, ground := Ground.guard }], guard := some (22, true) }) rfl (fun K hK => ?_) AllReadyH.nil
    go_simp
    refine (HRt.out _ (HLq.out _ HK.out.old)).mono ?_
    rintro e w1 ⟨rfl, hW⟩
    rw [hW] at HK HD
    clear hW
    refine hK.out _ _ ?_ (fun hHeld => ?_)
    · exact ⟨⟨(Arr4.box HK.out.cfg), (Arr4.box HK.out.op)⟩, HK.out.cnt.1, HK.out.want.1⟩
    clear hK K
    try simp only [Act.put, List.setIfInBounds_toArray, List.set_cons_zero, List.set_cons_succ]
    refine wpAnyH_ready (rs := [26]) (by kernel_rfl) (by simp) ?_
    refine AllReadyH.cons (o := { dst := some 57, op := Op.call { callee := Callee.value (Operand.func 15), args := #[Operand.tmp 56], argTypes := #[3] }, type := 9, pos := "law.go:27", after := #[{ on := 25, ground := Ground.data }, { on := 24, ground := Ground.chain }, { on := 22, ground := Ground.guard }], guard := some (22, true) }) rfl (fun K hK => ?_) AllReadyH.nil
    go_simp
    refine (HRR.out _).mono ?_
    rintro e w1 ⟨rfl, hW⟩
    rw [hW] at HK HD
    clear hW
    have hc := HK.out.res.1; have hf := HK.out.res.2
    refine hK.out _ _ ?_ (fun hHeld => ?_)
    · exact ⟨⟨(Arr4.box HK.out.cfg), (Arr4.box HK.out.op)⟩, HK.out.cnt.1, HK.out.want.1⟩
    clear hK K
    try simp only [Act.put, List.setIfInBounds_toArray, List.set_cons_zero, List.set_cons_succ]
    refine wpAnyH_take (i := 27) (oi := { dst := some 58, op := Op.binOp BinOp.eql 9 (Operand.tmp 55) (Operand.tmp 57) 9, type := 4, pos := "law.go:27", after := #[{ on := 24, ground := Ground.data }, { on := 26, ground := Ground.data }, { on := 22, ground := Ground.guard }], guard := some (22, true) }) (v := ?vc27) rfl (by kernel_rfl) (by kernel_rfl) (by kernel_rfl) (fun _ _ _ h => h) (Or.inl ⟨by rfl, ?hyc27⟩) hHeld ?_
    case hyc27 => (intro w hSw; (try dsimp only at hSw); go_simp; (try with_reducible rfl))
    try simp only [Act.put, List.setIfInBounds_toArray, List.set_cons_zero, List.set_cons_succ]
    refine wpAnyH_take (i := 28) (oi := { dst := some 59, op := Op.pick (Operand.tmp 53) (Operand.tmp 58) (Operand.const (Value.bool false)), type := 4, pos := "law.go:27", after := #[{ on := 22, ground := Ground.data }, { on := 27, ground := Ground.data }], guard := none }) (v := ?vc28) rfl (by kernel_rfl) (by kernel_rfl) (by kernel_rfl) (fun _ _ _ h => h) (Or.inl ⟨by rfl, ?hyc28⟩) hHeld ?_
    case hyc28 => (intro w hSw; (try dsimp only at hSw); go_simp; (try with_reducible rfl))
    try simp only [Act.put, List.setIfInBounds_toArray, List.set_cons_zero, List.set_cons_succ]
    refine wpAnyH_ready (rs := [29]) (by kernel_rfl) (by simp) ?_
    refine AllReadyH.cons (o := { dst := none, op := Op.store 4 (Operand.tmp 6) (Operand.tmp 59), type := 0, pos := "law.go:27", after := #[{ on := 28, ground := Ground.data }, { on := 26, ground := Ground.chain }, { on := 0, ground := Ground.phase }, { on := 1, ground := Ground.phase }, { on := 2, ground := Ground.phase }, { on := 3, ground := Ground.phase }, { on := 4, ground := Ground.phase }, { on := 5, ground := Ground.phase }, { on := 6, ground := Ground.phase }, { on := 7, ground := Ground.phase }, { on := 8, ground := Ground.phase }, { on := 9, ground := Ground.phase }, { on := 10, ground := Ground.phase }, { on := 11, ground := Ground.phase }, { on := 12, ground := Ground.phase }, { on := 13, ground := Ground.phase }, { on := 14, ground := Ground.phase }, { on := 15, ground := Ground.phase }, { on := 16, ground := Ground.phase }, { on := 17, ground := Ground.phase }, { on := 18, ground := Ground.phase }, { on := 19, ground := Ground.phase }, { on := 20, ground := Ground.phase }, { on := 21, ground := Ground.phase }, { on := 22, ground := Ground.phase }, { on := 23, ground := Ground.phase }, { on := 24, ground := Ground.phase }, { on := 25, ground := Ground.phase }, { on := 26, ground := Ground.phase }, { on := 27, ground := Ground.phase }, { on := 28, ground := Ground.phase }], guard := none }) rfl (fun K hK => ?_) AllReadyH.nil
    go_simp
    refine hK.out _ _ ?_ (fun hHeld => ?_)
    · exact HK.out.put _
    clear hK K
    try simp only [Act.put, List.setIfInBounds_toArray, List.set_cons_zero, List.set_cons_succ]
    refine wpAnyH_done (by kernel_rfl) ?_ _
    refine NoPanic.normal ?_
    gi_wp2
    have hK' := (KeepsOthers.setCell _ ⟨w.heap.size + 2, 0, none⟩ (.bool true)).same D _ HD.out rfl
    refine ⟨by simp, .inl ⟨_, _, rfl, run_takeDeferred hK', ?_⟩⟩
    have hc5 := (HK.out.res.set (.bool true)).own (grownBy_putObj' _ D (.deferred none)) (fun r e => by cases e; exact ⟨_, hK', rfl⟩)
    have hB5 := HK.out.old.setCell (p := ⟨w.heap.size + 2, 0, none⟩) (by simp) (.bool true)
    refine ⟨.bool true, ?_, rfl, hB5.grown (grownBy_putObj' _ D (.deferred none)) hB5.size (fun k e => by cases e; omega)⟩
    simp [results, Tryd.f3, go_sem, hc5.1]
  case stop =>
    rintro D cc pre W' hD hpre hF hK
    exact hF.elim
end Go.Proofs.YtaiioflhkmflgaaDoor
