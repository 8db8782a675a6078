/- The document's Reached. -/
import Derived.Test.YthdcapkchjamoaaDoorM16
namespace Go.Proofs.YthdcapkchjamoaaDoor
open Go Go.RowKit
set_option maxRecDepth 100000
attribute [local go_sem ↓] Go.wp_at_zero Go.wp_at_succ

/-- Going through what is reached: the cells that were come to, in block O; the words that are still to be looked at, as a row (above M). -/
structure RcW (w wr : World) (O M : Nat) (N : Nat) (b c d : Int) (o : Nat → Bool) (v : Value) (l : List Int) : Prop where
  old : Below w.heap.size w wr
  box : BoxAt wr w.heap.size N b c d
  out : BoolAt wr O N o
  row : wr.ownsRow M 35 1 v l.length (wdsV l)
  le : M ≤ wr.heap.size
  lO : w.heap.size < O ∧ O < M
namespace RcW
variable {w W V : World} {O M N : Nat} {b c d : Int} {o : Nat → Bool} {v v' : Value} {l l' : List Int}
theorem below (h : RcW w W O M N b c d o v l) (hb : Below W.heap.size W V) : RcW w V O M N b c d o v l :=
  ⟨belowOn h.old hb, h.box.below hb, h.out.below hb, ownsRow_below4 h.row hb, Nat.le_trans h.le hb.size, h.lO⟩
theorem drew (h : RcW w W O M N b c d o v l) : RcW w W.drew O M N b c d o v l := h.below (Below.refl _ _).drew
theorem grow (h : RcW w W O M N b c d o v l) {r : Option Nat} (hg : W.grownBy V r) (hr : ∀ k, r = some k → M ≤ k) (hown : V.ownsRow M 35 1 v' l'.length (wdsV l')) : RcW w V O M N b c d o v' l' := by
  have l0 := h.lO; have hle := h.le
  have key : ∀ k, k < M → V.heap[k]? = W.heap[k]? := fun k hk => hg.block k (by omega) (fun e => by have := hr k e.symm; omega)
  have hb : Below M W V := ⟨hg.os, hg.tape, hg.output, hg.size, key⟩
  have hx := lt_of_cell h.box.1
  have kb : ∀ j x, W.cell? ⟨w.heap.size, j, none⟩ = some x → V.cell? ⟨w.heap.size, j, none⟩ = some x := fun j x hx => (World.cell?_of_block (a := ⟨w.heap.size, j, none⟩) (key w.heap.size (by omega))).trans hx
  exact ⟨h.old.trans ⟨hg.os, hg.tape, hg.output, hg.size, fun k hk => key k (by omega)⟩, ⟨kb _ _ h.box.1, kb _ _ h.box.2.1, kb _ _ h.box.2.2.1, kb _ _ h.box.2.2.2⟩, h.out.other (key O l0.2), hown, Nat.le_trans hle hg.size, l0⟩
theorem cut {g k cap : Nat} {x : Int} (h : RcW w W O M N b c d o (.slice (some ⟨g, 0, none⟩) (k + 1) cap) (l ++ [x])) (hk : l.length = k) : RcW w W O M N b c d o (.slice (some ⟨g, 0, none⟩) k cap) l := by
  refine ⟨h.old, h.box, h.out, ?_, h.le, h.lO⟩
  have := h.row
  rw [List.length_append, wdsV_append] at this
  subst hk
  exact ownsRow_cut this (wdsV_length l)
theorem mark (h : RcW w W O M N b c d o v l) (i : Nat) : RcW w (W.setCell ⟨O, i, none⟩ (.bool true)) O M N b c d (setO o i) v l := by
  have l0 := h.lO
  refine ⟨h.old.setCell (p := ⟨O, i, none⟩) (by show w.heap.size ≤ O; omega) _, h.box.setOther (by show O ≠ w.heap.size; omega) _, (h.out.set i true).congr (fun j _ => rfl), ownsRow_block h.row (fun k hk => Below.heap_setCell _ _ _ _ (by have := (h.row.lt k hk).1; show k ≠ O; omega)), by simpa [World.setCell] using h.le, l0⟩
end RcW
theorem ownsRow_empty (W : World) : (W.alloc (.cells #[] 35)).ownsRow W.heap.size 35 1 (.slice (some ⟨W.heap.size, 0, none⟩) 0 0) 0 [] :=
  ⟨rfl, .inr ⟨W.heap.size, 0, #[], rfl, Nat.le_refl _, newBlock W _, Nat.le_refl _, Nat.zero_le _, rfl, rfl⟩⟩
theorem wds_two (W : World) (p q : Int) : WdsAt (W.alloc (.cells #[.int .u64 p, .int .u64 q] 35)) (some ⟨W.heap.size, 0, none⟩) [p, q] := by
  refine .inr ⟨W.heap.size, 0, rfl, by simp, fun j x hx => ?_⟩
  have h := newBlock W (.cells #[.int .u64 p, .int .u64 q] 35)
  have hj : j < 2 := by have := (List.getElem?_eq_some_iff.1 hx).1; simpa using this
  rcases (by omega : j = 0 ∨ j = 1) with rfl | rfl
  all_goals (simp only [List.getElem?_cons_zero, List.getElem?_cons_succ, Option.some.injEq] at hx; subst hx; unfold World.cell?; rw [h]; rfl)
theorem WdsAt.block {w w' : World} {g : Nat} {l : List Int} (h : WdsAt w (some ⟨g, 0, none⟩) l) (hb : w'.heap[g]? = w.heap[g]?) (hs : w.heap.size ≤ w'.heap.size) : WdsAt w' (some ⟨g, 0, none⟩) l := by
  rcases h with h | ⟨b, off, e, h1, h2⟩
  · exact .inl h
  · obtain ⟨rfl, rfl⟩ : g = b ∧ 0 = off := by simpa using e
    exact .inr ⟨g, 0, rfl, Nat.lt_of_lt_of_le h1 hs, fun j x hx => (World.cell?_of_block (a := ⟨g, 0 + j, none⟩) hb).trans (h2 j x hx)⟩
theorem rowNews {W : World} {M k cg : Nat} {ad : Addr} {l : List Int} (h : W.ownsRow M 35 1 (.slice (some ad) k cg) k (wdsV l)) (hk : l.length = k) : ∀ j u, (wdsV l)[j]? = some u → W.cell? (ad.add j) = some u := by
  subst hk
  obtain ⟨a', c', e, hA, _, _⟩ := WdsAt.own h
  obtain ⟨rfl, _⟩ : some ad = a' ∧ cg = c' := by simpa using e
  by_cases hl : l = []
  · intro j u hu; rw [hl] at hu; simp [wdsV] at hu
  · exact hA.news hl
set_option maxHeartbeats 12800000 in
theorem rReached_c (N : Nat) (b c d : Int) {n c0 : Nat} {f : Nat → Int} (hC : CfOK ⟨n, N, b, c, d⟩) (hu : ∀ j, U64 (f j)) {va vb : Option Addr} {c1 : Nat} {L : List Int} (hLu : ∀ x ∈ L, U64 x) (hL0 : L ≠ []) (hL4 : L.length ≤ 40000) (w : World) (hW : WordsAt w va n f) (hF : WdsAt w vb L) :
    Calls Tryd.prog 8 #[.agg #[.int .i64 (N : Int), .int .i64 b, .int .i64 c, .int .i64 d], .slice va n c0, .slice vb L.length c1] w fun e w' => ∃ O o, e = .returned (.slice (some ⟨O, 0, none⟩) N N) ∧ w.heap.size ≤ O ∧ BoolAt w' O N o ∧ (∀ i, o i = true ↔ Rch ⟨n, N, b, c, d⟩ f (fun x => x ∈ L) i) ∧ Below w.heap.size w w' := by
  have h4 := hC.a4
  dsimp only at h4
  have hmk := make_bools N (by omega)
  have hn0 : 0 < n := hC.pos
  have HB0 := Lib.hid (below_new w (.cells #[.int .i64 (N : Int), .int .i64 b, .int .i64 c, .int .i64 d] 23))
  have HX0 := Lib.hid (BoxAt.new w (N : Int) b c d 23)
  obtain ⟨i0, hi, hz0, hz1, hz2⟩ := info_parts infoWord
  have HK := Lib.hid hC; have HU := Lib.hid hu; have HLu := Lib.hid hLu
  obtain ⟨bz, off, rfl, _⟩ := hW.at' hn0
  obtain ⟨ad, rfl⟩ : ∃ ad, vb = some ad := by
    rcases hF with h | ⟨b', off', e, _⟩
    · exact absurd h hL0
    · exact ⟨_, e⟩
  have HWd := Lib.hid hW; have HF := Lib.hid hF
  obtain ⟨base, hbase⟩ : ∃ base : Nat, 5 + b + d + b * c = (base : Int) := ⟨(5 + b + d + b * c).toNat, by have := hC.right.prod; have h2 := hC.right; unfold Right at h2; dsimp only at *; omega⟩
  have hsz := hC.size
  dsimp only at hsz
  have hbn : (n : Int) - 3 * (N : Int) = (base : Int) := by omega
  have hbN : base + 3 * N = n := by omega
  have HBs := Lib.hid hbase
  have hn20 : n ≤ 20000 := by have := hC.right.prod; have h2 := hC.right; unfold Right at h2; dsimp only at *; omega
  have hwa : IntKind.i64.wrap (3 * (N : Int)) = 3 * (N : Int) := IntWalk.i64_in _ (by omega)
  have hwb : IntKind.i64.wrap ((n : Int) - 3 * (N : Int)) = (base : Int) := by rw [hbn]; exact IntWalk.i64_in _ (by omega)
  obtain ⟨x0, x1, x2, x3⟩ := HX0.out
  obtain ⟨ll, hll⟩ : ∃ ll, L.length = ll := ⟨_, rfl⟩
  rw [hll] at hL4 ⊢
  have HLl := Lib.hid hll
  have hl0 : 0 < ll := by rw [← hll]; exact List.length_pos_iff.2 hL0
  have hb3 := belowOn (below_new w (.cells #[.int .i64 (N : Int), .int .i64 b, .int .i64 c, .int .i64 d] 23)) (belowOn (below_new (w.alloc (.cells #[.int .i64 (N : Int), .int .i64 b, .int .i64 c, .int .i64 d] 23)) (.cells (madeCells #[.bool false] N) 4)) (below_new ((w.alloc (.cells #[.int .i64 (N : Int), .int .i64 b, .int .i64 c, .int .i64 d] 23)).alloc (.cells (madeCells #[.bool false] N) 4)) (.cells #[] 35)))
  have hs1 : (w.alloc (.cells #[.int .i64 (N : Int), .int .i64 b, .int .i64 c, .int .i64 d] 23)).heap.size = w.heap.size + 1 := by simp
  have hs2 : ((w.alloc (.cells #[.int .i64 (N : Int), .int .i64 b, .int .i64 c, .int .i64 d] 23)).alloc (.cells (madeCells #[.bool false] N) 4)).heap.size = w.heap.size + 2 := by simp
  have hO := (BoolAt.made (w.alloc (.cells #[.int .i64 (N : Int), .int .i64 b, .int .i64 c, .int .i64 d] 23)) N).below (below_new ((w.alloc (.cells #[.int .i64 (N : Int), .int .i64 b, .int .i64 c, .int .i64 d] 23)).alloc (.cells (madeCells #[.bool false] N) 4)) (.cells #[] 35))
  rw [hs1] at hO
  have hE : (((w.alloc (.cells #[.int .i64 (N : Int), .int .i64 b, .int .i64 c, .int .i64 d] 23)).alloc (.cells (madeCells #[.bool false] N) 4)).alloc (.cells #[] 35)).ownsRow (w.heap.size + 2) 35 1 (.slice (some ⟨w.heap.size + 2, 0, none⟩) 0 0) 0 [] := ⟨rfl, .inr ⟨w.heap.size + 2, 0, #[], rfl, Nat.le_refl _, by rw [← hs2]; exact newBlock ((w.alloc (.cells #[.int .i64 (N : Int), .int .i64 b, .int .i64 c, .int .i64 d] 23)).alloc (.cells (madeCells #[.bool false] N) 4)) _, Nat.le_refl _, Nat.zero_le _, rfl, rfl⟩⟩
  have HT0 : Hid (RcW w (((w.alloc (.cells #[.int .i64 (N : Int), .int .i64 b, .int .i64 c, .int .i64 d] 23)).alloc (.cells (madeCells #[.bool false] N) 4)).alloc (.cells #[] 35)) (w.heap.size + 1) (w.heap.size + 2) N b c d (fun _ => false) (.slice (some ⟨w.heap.size + 2, 0, none⟩) 0 0) []) := Lib.hid ⟨hb3, HX0.out.below (belowOn (below_new (w.alloc (.cells #[.int .i64 (N : Int), .int .i64 b, .int .i64 c, .int .i64 d] 23)) (.cells (madeCells #[.bool false] N) 4)) (below_new ((w.alloc (.cells #[.int .i64 (N : Int), .int .i64 b, .int .i64 c, .int .i64 d] 23)).alloc (.cells (madeCells #[.bool false] N) 4)) (.cells #[] 35))), hO, hE, by simp, by omega⟩
  have HNw := Lib.hid ((HF.out.below hb3).news hL0)
  have HLn : Hid ((wdsV L).length = ll * 1) := Lib.hid (by rw [wdsV_length, HLl.out]; omega)
  clear hb3 hs1 hs2 hO hE hC hu hLu hW hF hll hsz hbn hbase HB0 HX0
  go_enter Tryd.func8, Tryd.ntmps8
  go_wp2_with (at_builtin; go_loud (refine wpList_append_lies _ (by rfl) _ _ _ (by rfl) (w.heap.size + 2) 35 i0 _ 1 8 Tryd.underlying24 hi hz0 hz1 hz2 rfl (by omega) _ 0 [] (by rfl) HT0.out.row ad ll c1 (wdsV L) (by rfl) HLn.out HNw.out wdsV_one hl0 (by unfold maxLen; omega) (by omega) (by simp) (w.heap.size + 2 + 1) (by simp) ?_; intro gg cap w2 hown1 hgrow hat hlt2; have HT1 := Lib.hid (HT0.out.grow (l' := L) hgrow (fun k e => by cases e; exact Nat.le_refl _) (by rw [HLl.out]; simpa using hown1))))
  clear hown1 hgrow hat hlt2 HT0 HNw HLn hwa hwb hmk x0 x1 x2 x3
  generalize hO : w.heap.size + 1 = O at *
  generalize hM : w.heap.size + 2 = M at *
  go_loopg [9] (2 * N + ll) (fun g v wr => ∃ (l : List Int) (o : Nat → Bool) (ag : Option Addr) (cg : Nat), v = .slice ag l.length cg ∧ dfM N o l.length ≤ g ∧ 2 * N + ll ≤ 60000 ∧ g ≤ 2 * N + ll ∧ Hid (RcW w wr O M N b c d o v l) ∧ Hid (DfSt ⟨n, N, b, c, d⟩ f (fun x => x ∈ L) o l) ∧ Hid (∀ x ∈ l, U64 x))
  case atStart => exact ⟨L, fun _ => false, _, _, by rw [HLl.out], by rw [HLl.out, dfM_first]; exact Nat.le_refl _, by omega, Nat.le_refl _, HT1, Lib.hid (DfSt.first (fun _ => Iff.rfl)), HLu⟩
  case round =>
    clear HT1
    obtain ⟨l, o, ag, cg, rfl, hg, hgM, hgm, HT, HD, HLu2⟩ := hrel
    rcases List.eq_nil_or_concat l with hl | ⟨l', x, hl⟩
    · subst hl
      have hd := HD.out.done
      go_wp2_with fail
      go_ret
      exact ⟨O, o, rfl, by omega, HT.out.out, hd, HT.out.old⟩
    · rw [List.concat_eq_append] at hl
      subst hl
      obtain ⟨x0, x1, x2, x3⟩ := HT.out.box
      obtain ⟨ag2, cap2, e2, hAt, hag, hcp⟩ := WdsAt.own HT.out.row
      obtain ⟨rfl, rfl⟩ : ag = ag2 ∧ cg = cap2 := by simpa using e2
      obtain ⟨gb, rfl, hgb, hgl⟩ := hag.resolve_left (fun e => by rw [e] at hAt; rcases hAt with q | ⟨_, _, q, _⟩; simp at q; cases q)
      have cx : wr.cell? ⟨gb, l'.length, none⟩ = some (.int .u64 x) := by
        rcases hAt with q | ⟨b', off', e, _, h2⟩
        · simp at q
        · obtain ⟨rfl, rfl⟩ : gb = b' ∧ 0 = off' := by simpa using e
          have := h2 l'.length x (by simp)
          rwa [Nat.zero_add] at this
      obtain ⟨u, rfl, hu6⟩ := u64_nat' (HLu2.out x (by simp))
      have hll : (l' ++ [(u : Int)]).length = l'.length + 1 := by simp
      rw [hll] at hg hcp
      have HT' : Hid (RcW w wr O M N b c d o (.slice (some ⟨gb, 0, none⟩) (l'.length + 1) cg) (l' ++ [(u : Int)])) := Lib.hid (by have := HT.out; rwa [hll] at this)
      have HC := Lib.hid (HT'.out.cut rfl)
      have HLu3 : Hid (∀ x ∈ l', U64 x) := Lib.hid (fun x hx => HLu2.out x (List.mem_append.2 (.inl hx)))
      rw [hll]
      have HT2 := HT
      clear HT HT' HLu2 hAt e2 hll
      generalize hk : l'.length = k at *
      have hk4 : k ≤ 60000 := by have := dfM_len N o (k + 1); omega
      obtain ⟨l1, hl1⟩ : ∃ l1, k + 1 = l1 := ⟨_, rfl⟩
      rw [hl1] at hg hcp ⊢
      have k0 : (0 : Int) < (l1 : Int) := by omega
      have k1 : IntKind.i64.wrap ((l1 : Int) - 1) = (k : Int) := by rw [IntWalk.i64_in _ (by omega)]; omega
      have k2 : (0 : Int) ≤ (k : Int) := by omega
      have k3 : (k : Int) < (l1 : Int) := by omega
      have k4 : (k : Int) ≤ (cg : Int) := by omega
      have k5 : ¬ cg = 0 := by omega
      have h1' : dfM N o l1 = dfM N o k + 1 := by rw [← hl1]; unfold dfM; omega
      by_cases he : u % 2 = 0
      · have e0 : ((u : Int) % 2 == 0) = true := by simp; omega
        have HD2 := Lib.hid (HD.out.skip (by dsimp only; omega))
        clear HD he
        go_wp2_with fail
        go_roundg (gk - 1)
        case measure => omega
        case rel => exact ⟨l', o, some ⟨gb, 0, none⟩, cg, by rw [hk], by rw [hk]; omega, hgM, by omega, HC, HD2, HLu3⟩
      by_cases hb2 : (N : Int) ≤ (u : Int) / 2
      · have e0 : ((u : Int) % 2 == 0) = false := by simp; omega
        have e1 : decide ((N : Int) ≤ (u : Int) / 2) = true := decide_eq_true hb2
        have HD2 := Lib.hid (HD.out.skip (by dsimp only; omega))
        clear HD he hb2
        go_wp2_with fail
        go_roundg (gk - 1)
        case measure => omega
        case rel => exact ⟨l', o, some ⟨gb, 0, none⟩, cg, by rw [hk], by rw [hk]; omega, hgM, by omega, HC, HD2, HLu3⟩
      have e0 : ((u : Int) % 2 == 0) = false := by simp; omega
      have e1 : decide ((N : Int) ≤ (u : Int) / 2) = false := decide_eq_false hb2
      obtain ⟨i, hi2⟩ : ∃ i, u / 2 = i := ⟨_, rfl⟩
      have hui : (u : Int) = 2 * (i : Int) + 1 := by omega
      have hiN : i < N := by omega
      have hdiv : (u : Int) / 2 = (i : Int) := by omega
      have i0' : (0 : Int) ≤ (i : Int) := by omega
      have i1' : (i : Int) < (N : Int) := by omega
      rw [hui] at HD
      rw [hdiv] at e1
      clear he hb2 hi2 hui
      have co := HT2.out.out.cell hiN
      cases hoi : o i
      · rw [hoi] at co
        have cf := HT2.out.out.frozen i
        have HD2 := Lib.hid (HD.out.mark (by dsimp only; omega))
        clear HD
        have hM2 := dfM_mark hiN hoi k
        obtain ⟨_, pa, pd⟩ := part_at HK.out (i := i) (by dsimp only; omega)
        dsimp only at pa pd
        rw [HBs.out] at pa pd
        obtain ⟨q, hq⟩ : ∃ q, base + 3 * i = q := ⟨_, rfl⟩
        have qa : carI ⟨n, N, b, c, d⟩ i = q := by omega
        have qd : cdrI ⟨n, N, b, c, d⟩ i = q + 1 := by omega
        rw [qa, qd] at HD2
        have ua := HU.out q; have ud := HU.out (q + 1)
        have HLu4 : Hid (∀ x ∈ l' ++ [f q, f (q + 1)], U64 x) := Lib.hid (fun x hx => by rcases List.mem_append.1 hx with h | h; exact HLu3.out x h; rcases List.mem_cons.1 h with h | h; (rw [h]; exact ua); (rw [List.mem_singleton.1 h]; exact ud))
        have s1 : IntKind.i64.wrap (3 * (i : Int)) = 3 * (i : Int) := IntWalk.i64_in _ (by omega)
        have s2 : IntKind.i64.wrap ((base : Int) + 3 * (i : Int)) = (q : Int) := by rw [IntWalk.i64_in _ (by omega)]; omega
        obtain ⟨q1, hq1⟩ : ∃ q1, q + 1 = q1 := ⟨_, rfl⟩
        have s3 : IntKind.i64.wrap ((q : Int) + 1) = (q1 : Int) := by rw [IntWalk.i64_in _ (by omega)]; omega
        rw [hq1] at HD2 HLu4
        have t0 : (0 : Int) ≤ (q : Int) := by omega
        have t1 : (q : Int) < (n : Int) := by omega
        have t2 : (0 : Int) ≤ (q1 : Int) := by omega
        have t3 : (q1 : Int) < (n : Int) := by omega
        clear pa pd qa qd ua ud HLu3
        go_wp2_with fail
        have HM := Lib.hid (HC.out.mark i)
        have HM := Lib.hid (HC.out.mark i)
        clear HC HT2 co cf
        generalize wr.setCell ⟨O, i, none⟩ (.bool true) = wa at *
        have HA := HM
        clear HM
        have cw1 : wa.drew.cell? ⟨bz, off + q, none⟩ = some (.int .u64 (f q)) := by
          obtain ⟨b', off', e, h⟩ := (HWd.out.below HA.out.old).at' (k := q) (by omega)
          obtain ⟨rfl, rfl⟩ : bz = b' ∧ off = off' := by simpa using e
          exact h
        have cw2 : wa.drew.cell? ⟨bz, off + q1, none⟩ = some (.int .u64 (f q1)) := by
          obtain ⟨b', off', e, h⟩ := (HWd.out.below HA.out.old).at' (k := q1) (by omega)
          obtain ⟨rfl, rfl⟩ : bz = b' ∧ off = off' := by simpa using e
          exact h
        refine wp_region_held_drew (S := (fun w' => w'.cell? ⟨bz, off + q, none⟩ = some (.int .u64 (f q)) ∧ w'.cell? ⟨bz, off + q1, none⟩ = some (.int .u64 (f q1)))) (by kernel_rfl) ?_ (fun hHeld => ?_)
        · exact ⟨cw1, cw2⟩
        refine wpAnyH_take (i := 1) (oi := { dst := some 60, op := Op.move (Operand.tmp 9), type := 24, pos := "ref.go:57", after := #[], guard := none }) (v := ?vm1) rfl (by kernel_rfl) (by kernel_rfl) (by kernel_rfl) (fun _ _ _ h => h) (Or.inl ⟨by rfl, ?hym1⟩) hHeld ?_
        case hym1 => (intro w hSw; (try dsimp only at hSw); go_simp; (try with_reducible rfl))
        try simp only [Act.put, List.setIfInBounds_toArray, List.set_cons_zero, List.set_cons_succ]
        refine wpAnyH_take (i := 3) (oi := { dst := some 62, op := Op.move (Operand.tmp 1), type := 24, pos := "ref.go:57", after := #[], guard := none }) (v := ?vm3) rfl (by kernel_rfl) (by kernel_rfl) (by kernel_rfl) (fun _ _ _ h => h) (Or.inl ⟨by rfl, ?hym3⟩) hHeld ?_
        case hym3 => (intro w hSw; (try dsimp only at hSw); go_simp; (try with_reducible rfl))
        try simp only [Act.put, List.setIfInBounds_toArray, List.set_cons_zero, List.set_cons_succ]
        refine wpAnyH_take (i := 4) (oi := { dst := some 63, op := Op.move (Operand.tmp 8), type := 3, pos := "ref.go:57", after := #[], guard := none }) (v := ?vm4) rfl (by kernel_rfl) (by kernel_rfl) (by kernel_rfl) (fun _ _ _ h => h) (Or.inl ⟨by rfl, ?hym4⟩) hHeld ?_
        case hym4 => (intro w hSw; (try dsimp only at hSw); go_simp; (try with_reducible rfl))
        try simp only [Act.put, List.setIfInBounds_toArray, List.set_cons_zero, List.set_cons_succ]
        refine wpAnyH_take (i := 5) (oi := { dst := some 64, op := Op.move (Operand.tmp 11), type := 3, pos := "ref.go:57", after := #[], guard := none }) (v := ?vm5) rfl (by kernel_rfl) (by kernel_rfl) (by kernel_rfl) (fun _ _ _ h => h) (Or.inl ⟨by rfl, ?hym5⟩) hHeld ?_
        case hym5 => (intro w hSw; (try dsimp only at hSw); go_simp; (try with_reducible rfl))
        try simp only [Act.put, List.setIfInBounds_toArray, List.set_cons_zero, List.set_cons_succ]
        refine wpAnyH_take (i := 6) (oi := { dst := some 65, op := Op.binOp BinOp.mul 3 (Operand.const (Value.int IntKind.i64 3)) (Operand.tmp 64) 3, type := 3, pos := "ref.go:57", after := #[{ on := 5, ground := Ground.data }], guard := none }) (v := ?vm6) rfl (by kernel_rfl) (by kernel_rfl) (by kernel_rfl) (fun _ _ _ h => h) (Or.inl ⟨by rfl, ?hym6⟩) hHeld ?_
        case hym6 => (intro w hSw; (try dsimp only at hSw); go_simp; (try with_reducible rfl))
        try simp only [Act.put, List.setIfInBounds_toArray, List.set_cons_zero, List.set_cons_succ]
        refine wpAnyH_take (i := 7) (oi := { dst := some 66, op := Op.binOp BinOp.add 3 (Operand.tmp 63) (Operand.tmp 65) 3, type := 3, pos := "ref.go:57", after := #[{ on := 4, ground := Ground.data }, { on := 6, ground := Ground.data }], guard := none }) (v := ?vm7) rfl (by kernel_rfl) (by kernel_rfl) (by kernel_rfl) (fun _ _ _ h => h) (Or.inl ⟨by rfl, ?hym7⟩) hHeld ?_
        case hym7 => (intro w hSw; (try dsimp only at hSw); go_simp; (try with_reducible rfl))
        try simp only [Act.put, List.setIfInBounds_toArray, List.set_cons_zero, List.set_cons_succ]
        refine wpAnyH_take (i := 8) (oi := { dst := some 67, op := Op.indexAddr 24 (Operand.tmp 62) (Operand.tmp 66), type := 0, pos := "ref.go:57", after := #[{ on := 3, ground := Ground.data }, { on := 7, ground := Ground.data }], guard := none }) (v := ?vm8) rfl (by kernel_rfl) (by kernel_rfl) (by kernel_rfl) (fun _ _ _ h => h) (Or.inl ⟨by rfl, ?hym8⟩) hHeld ?_
        case hym8 => (intro w hSw; (try dsimp only at hSw); go_simp; (try with_reducible rfl))
        try simp only [Act.put, List.setIfInBounds_toArray, List.set_cons_zero, List.set_cons_succ]
        refine wpAnyH_take (i := 9) (oi := { dst := some 68, op := Op.load 35 (Operand.tmp 67), type := 35, pos := "ref.go:57", after := #[{ on := 8, ground := Ground.data }], guard := none }) (v := ?vm9) rfl (by kernel_rfl) (by kernel_rfl) (by kernel_rfl) (fun _ _ _ h => h) (Or.inl ⟨by rfl, ?hym9⟩) hHeld ?_
        case hym9 => (intro w hSw; (try dsimp only at hSw); go_simp; (try with_reducible rfl))
        try simp only [Act.put, List.setIfInBounds_toArray, List.set_cons_zero, List.set_cons_succ]
        refine wpAnyH_take (i := 10) (oi := { dst := some 69, op := Op.move (Operand.tmp 1), type := 24, pos := "ref.go:57", after := #[], guard := none }) (v := ?vm10) rfl (by kernel_rfl) (by kernel_rfl) (by kernel_rfl) (fun _ _ _ h => h) (Or.inl ⟨by rfl, ?hym10⟩) hHeld ?_
        case hym10 => (intro w hSw; (try dsimp only at hSw); go_simp; (try with_reducible rfl))
        try simp only [Act.put, List.setIfInBounds_toArray, List.set_cons_zero, List.set_cons_succ]
        refine wpAnyH_take (i := 11) (oi := { dst := some 70, op := Op.move (Operand.tmp 8), type := 3, pos := "ref.go:57", after := #[], guard := none }) (v := ?vm11) rfl (by kernel_rfl) (by kernel_rfl) (by kernel_rfl) (fun _ _ _ h => h) (Or.inl ⟨by rfl, ?hym11⟩) hHeld ?_
        case hym11 => (intro w hSw; (try dsimp only at hSw); go_simp; (try with_reducible rfl))
        try simp only [Act.put, List.setIfInBounds_toArray, List.set_cons_zero, List.set_cons_succ]
        refine wpAnyH_take (i := 12) (oi := { dst := some 71, op := Op.move (Operand.tmp 11), type := 3, pos := "ref.go:57", after := #[], guard := none }) (v := ?vm12) rfl (by kernel_rfl) (by kernel_rfl) (by kernel_rfl) (fun _ _ _ h => h) (Or.inl ⟨by rfl, ?hym12⟩) hHeld ?_
        case hym12 => (intro w hSw; (try dsimp only at hSw); go_simp; (try with_reducible rfl))
        try simp only [Act.put, List.setIfInBounds_toArray, List.set_cons_zero, List.set_cons_succ]
        refine wpAnyH_take (i := 13) (oi := { dst := some 72, op := Op.binOp BinOp.mul 3 (Operand.const (Value.int IntKind.i64 3)) (Operand.tmp 71) 3, type := 3, pos := "ref.go:57", after := #[{ on := 12, ground := Ground.data }], guard := none }) (v := ?vm13) rfl (by kernel_rfl) (by kernel_rfl) (by kernel_rfl) (fun _ _ _ h => h) (Or.inl ⟨by rfl, ?hym13⟩) hHeld ?_
        case hym13 => (intro w hSw; (try dsimp only at hSw); go_simp; (try with_reducible rfl))
        try simp only [Act.put, List.setIfInBounds_toArray, List.set_cons_zero, List.set_cons_succ]
        refine wpAnyH_take (i := 14) (oi := { dst := some 73, op := Op.binOp BinOp.add 3 (Operand.tmp 70) (Operand.tmp 72) 3, type := 3, pos := "ref.go:57", after := #[{ on := 11, ground := Ground.data }, { on := 13, ground := Ground.data }], guard := none }) (v := ?vm14) rfl (by kernel_rfl) (by kernel_rfl) (by kernel_rfl) (fun _ _ _ h => h) (Or.inl ⟨by rfl, ?hym14⟩) hHeld ?_
        case hym14 => (intro w hSw; (try dsimp only at hSw); go_simp; (try with_reducible rfl))
        try simp only [Act.put, List.setIfInBounds_toArray, List.set_cons_zero, List.set_cons_succ]
        refine wpAnyH_take (i := 15) (oi := { dst := some 74, op := Op.binOp BinOp.add 3 (Operand.tmp 73) (Operand.const (Value.int IntKind.i64 1)) 3, type := 3, pos := "ref.go:57", after := #[{ on := 14, ground := Ground.data }], guard := none }) (v := ?vm15) rfl (by kernel_rfl) (by kernel_rfl) (by kernel_rfl) (fun _ _ _ h => h) (Or.inl ⟨by rfl, ?hym15⟩) hHeld ?_
        case hym15 => (intro w hSw; (try dsimp only at hSw); go_simp; (try with_reducible rfl))
        try simp only [Act.put, List.setIfInBounds_toArray, List.set_cons_zero, List.set_cons_succ]
        refine wpAnyH_take (i := 16) (oi := { dst := some 75, op := Op.indexAddr 24 (Operand.tmp 69) (Operand.tmp 74), type := 0, pos := "ref.go:57", after := #[{ on := 10, ground := Ground.data }, { on := 15, ground := Ground.data }], guard := none }) (v := ?vm16) rfl (by kernel_rfl) (by kernel_rfl) (by kernel_rfl) (fun _ _ _ h => h) (Or.inl ⟨by rfl, ?hym16⟩) hHeld ?_
        case hym16 => (intro w hSw; (try dsimp only at hSw); go_simp; (try with_reducible rfl))
        try simp only [Act.put, List.setIfInBounds_toArray, List.set_cons_zero, List.set_cons_succ]
        refine wpAnyH_take (i := 17) (oi := { dst := some 76, op := Op.load 35 (Operand.tmp 75), type := 35, pos := "ref.go:57", after := #[{ on := 16, ground := Ground.data }], guard := none }) (v := ?vm17) rfl (by kernel_rfl) (by kernel_rfl) (by kernel_rfl) (fun _ _ _ h => h) (Or.inl ⟨by rfl, ?hym17⟩) hHeld ?_
        case hym17 => (intro w hSw; (try dsimp only at hSw); go_simp; (try with_reducible rfl))
        try simp only [Act.put, List.setIfInBounds_toArray, List.set_cons_zero, List.set_cons_succ]
        refine wpAnyH_ready (rs := [0, 18]) (by kernel_rfl) (by simp) ?_
        refine AllReadyH.cons (o := { dst := some 59, op := Op.buildSlice 24 0 #[], type := 24, pos := "ref.go:57", after := #[], guard := none }) rfl (fun K hK => ?_) ?_
        · go_simp
          have HE := Lib.hid (ownsRow_below4 (ownsRow_empty wa) (Below.refl _ _).drew)
          have HA' := Lib.hid (HA.out.below (below_new wa (.cells #[] 35))).drew
          have hEM : M ≤ wa.heap.size := HA.out.le
          clear hHeld HA cw1 cw2
          have HA := HA'
          clear HA'
          generalize (wa.alloc (.cells #[] 35)).drew = wb1 at *
          generalize wa.heap.size = E at *
          have cw1 : wb1.cell? ⟨bz, off + q, none⟩ = some (.int .u64 (f q)) := by
            obtain ⟨b', off', e, h⟩ := (HWd.out.below HA.out.old).at' (k := q) (by omega)
            obtain ⟨rfl, rfl⟩ : bz = b' ∧ off = off' := by simpa using e
            exact h
          have cw2 : wb1.cell? ⟨bz, off + q1, none⟩ = some (.int .u64 (f q1)) := by
            obtain ⟨b', off', e, h⟩ := (HWd.out.below HA.out.old).at' (k := q1) (by omega)
            obtain ⟨rfl, rfl⟩ : bz = b' ∧ off = off' := by simpa using e
            exact h
          refine hK.out _ _ ?_ (fun hHeld => ?_)
          · exact ⟨cw1, cw2⟩
          clear hK K
          try simp only [Act.put, List.setIfInBounds_toArray, List.set_cons_zero, List.set_cons_succ]
          refine wpAnyH_ready (rs := [2, 18]) (by kernel_rfl) (by simp) ?_
          refine AllReadyH.cons (o := { dst := some 61, op := Op.call { callee := Callee.builtin Builtin.append, args := #[Operand.tmp 59, Operand.tmp 60], argTypes := #[24, 24] }, type := 24, pos := "ref.go:57", after := #[{ on := 0, ground := Ground.data }, { on := 1, ground := Ground.data }], guard := none }) rfl (fun K hK => ?_) ?_
          · refine step_append_own (by rfl) _ _ _ (by rfl) M 35 i0 (.int .u64 0) 1 8 Tryd.underlying24 hi hz0 hz1 hz2 rfl (by decide) (.slice (some ⟨E, 0, none⟩) 0 0) 0 [] (by rfl) (HE.out.mono hEM) ⟨gb, 0, none⟩ k cg (wdsV l') (by rfl) (by rw [wdsV_length, hk]; omega) (rowNews (by have := HA.out.row; rwa [hk] at this) hk) wdsV_one (by unfold maxLen; omega) (by omega) HA.out.le ?_
            intro v1 wb2 hown1 hgrow _
            rw [Nat.zero_add, List.nil_append] at hown1
            have HA' := Lib.hid (HA.out.grow (l' := l') hgrow (fun j e => by cases e; exact hEM) (by rw [hk]; exact hown1))
            clear hHeld HA HE hown1 hgrow cw1 cw2
            have HA := HA'
            clear HA'
            have cw1 : wb2.cell? ⟨bz, off + q, none⟩ = some (.int .u64 (f q)) := by
              obtain ⟨b', off', e, h⟩ := (HWd.out.below HA.out.old).at' (k := q) (by omega)
              obtain ⟨rfl, rfl⟩ : bz = b' ∧ off = off' := by simpa using e
              exact h
            have cw2 : wb2.cell? ⟨bz, off + q1, none⟩ = some (.int .u64 (f q1)) := by
              obtain ⟨b', off', e, h⟩ := (HWd.out.below HA.out.old).at' (k := q1) (by omega)
              obtain ⟨rfl, rfl⟩ : bz = b' ∧ off = off' := by simpa using e
              exact h
            refine hK.out _ _ ?_ (fun hHeld => ?_)
            · exact ⟨cw1, cw2⟩
            clear hK K
            try simp only [Act.put, List.setIfInBounds_toArray, List.set_cons_zero, List.set_cons_succ]
            refine wpAnyH_ready (rs := [18]) (by kernel_rfl) (by simp) ?_
            refine AllReadyH.cons (o := { dst := some 77, op := Op.buildSlice 24 2 #[(0, Operand.tmp 68), (1, Operand.tmp 76)], type := 24, pos := "ref.go:57", after := #[{ on := 9, ground := Ground.data }, { on := 17, ground := Ground.data }], guard := none }) rfl (fun K hK => ?_) AllReadyH.nil
            go_simp
            have HT := Lib.hid (wds_two wb2 (f q) (f q1))
            have HA' := Lib.hid (HA.out.below (below_new wb2 (.cells #[.int .u64 (f q), .int .u64 (f q1)] 35)))
            have hTM : M ≤ wb2.heap.size := HA.out.le
            clear hHeld HA cw1 cw2
            have HA := HA'
            clear HA'
            have HTl0 : Hid (wb2.heap.size < (wb2.alloc (.cells #[.int .u64 (f q), .int .u64 (f q1)] 35)).heap.size) := Lib.hid (by simp)
            generalize (wb2.alloc (.cells #[.int .u64 (f q), .int .u64 (f q1)] 35)) = wb3 at *
            generalize wb2.heap.size = T at *
            have HTl := HTl0
            clear HTl0
            have cw1 : wb3.cell? ⟨bz, off + q, none⟩ = some (.int .u64 (f q)) := by
              obtain ⟨b', off', e, h⟩ := (HWd.out.below HA.out.old).at' (k := q) (by omega)
              obtain ⟨rfl, rfl⟩ : bz = b' ∧ off = off' := by simpa using e
              exact h
            have cw2 : wb3.cell? ⟨bz, off + q1, none⟩ = some (.int .u64 (f q1)) := by
              obtain ⟨b', off', e, h⟩ := (HWd.out.below HA.out.old).at' (k := q1) (by omega)
              obtain ⟨rfl, rfl⟩ : bz = b' ∧ off = off' := by simpa using e
              exact h
            refine hK.out _ _ ?_ (fun hHeld => ?_)
            · exact ⟨cw1, cw2⟩
            clear hK K
            try simp only [Act.put, List.setIfInBounds_toArray, List.set_cons_zero, List.set_cons_succ]
            refine wpAnyH_ready (rs := [19]) (by kernel_rfl) (by simp) ?_
            refine AllReadyH.cons (o := { dst := some 78, op := Op.call { callee := Callee.builtin Builtin.append, args := #[Operand.tmp 61, Operand.tmp 77], argTypes := #[24, 24] }, type := 24, pos := "ref.go:57", after := #[{ on := 2, ground := Ground.data }, { on := 18, ground := Ground.data }, { on := 2, ground := Ground.chain }], guard := none }) rfl (fun K hK => ?_) AllReadyH.nil
            refine step_append_own (by rfl) _ _ _ (by rfl) M 35 i0 (.int .u64 0) 1 8 Tryd.underlying24 hi hz0 hz1 hz2 rfl (by decide) v1 k (wdsV l') (by rfl) (by have := HA.out.row; rwa [hk] at this) ⟨T, 0, none⟩ 2 2 (wdsV [f q, f q1]) (by rfl) rfl (HT.out.news (by simp)) wdsV_one (by unfold maxLen; omega) (by omega) HA.out.le ?_
            intro v2 wb4 hown1 hgrow _
            have hl3 : (l' ++ [f q, f q1]).length = k + 2 := by rw [List.length_append, hk]; rfl
            have HA' := Lib.hid (HA.out.grow (l' := l' ++ [f q, f q1]) hgrow (fun j e => (HA.out.row.lt j e).1) (by rw [hl3, wdsV_append]; exact hown1))
            clear hHeld HA HT HTl hown1 hgrow cw1 cw2
            have HA := HA'
            clear HA'
            have cw1 : wb4.cell? ⟨bz, off + q, none⟩ = some (.int .u64 (f q)) := by
              obtain ⟨b', off', e, h⟩ := (HWd.out.below HA.out.old).at' (k := q) (by omega)
              obtain ⟨rfl, rfl⟩ : bz = b' ∧ off = off' := by simpa using e
              exact h
            have cw2 : wb4.cell? ⟨bz, off + q1, none⟩ = some (.int .u64 (f q1)) := by
              obtain ⟨b', off', e, h⟩ := (HWd.out.below HA.out.old).at' (k := q1) (by omega)
              obtain ⟨rfl, rfl⟩ : bz = b' ∧ off = off' := by simpa using e
              exact h
            refine hK.out _ _ ?_ (fun hHeld => ?_)
            · exact ⟨cw1, cw2⟩
            clear hK K
            try simp only [Act.put, List.setIfInBounds_toArray, List.set_cons_zero, List.set_cons_succ]
            refine wpAnyH_take (i := 20) (oi := { dst := some 9, op := Op.assign (Operand.tmp 78), type := 24, pos := "ref.go:57", after := #[{ on := 19, ground := Ground.data }, { on := 19, ground := Ground.chain }, { on := 0, ground := Ground.phase }, { on := 1, ground := Ground.phase }, { on := 2, ground := Ground.phase }, { on := 3, ground := Ground.phase }, { on := 4, ground := Ground.phase }, { on := 5, ground := Ground.phase }, { on := 6, ground := Ground.phase }, { on := 7, ground := Ground.phase }, { on := 8, ground := Ground.phase }, { on := 9, ground := Ground.phase }, { on := 10, ground := Ground.phase }, { on := 11, ground := Ground.phase }, { on := 12, ground := Ground.phase }, { on := 13, ground := Ground.phase }, { on := 14, ground := Ground.phase }, { on := 15, ground := Ground.phase }, { on := 16, ground := Ground.phase }, { on := 17, ground := Ground.phase }, { on := 18, ground := Ground.phase }, { on := 19, ground := Ground.phase }], guard := none }) (v := ?vm220) rfl (by kernel_rfl) (by kernel_rfl) (by kernel_rfl) (fun _ _ _ h => h) (Or.inl ⟨by rfl, ?hym220⟩) hHeld ?_
            case hym220 => (intro w hSw; (try dsimp only at hSw); go_simp; (try with_reducible rfl))
            try simp only [Act.put, List.setIfInBounds_toArray, List.set_cons_zero, List.set_cons_succ]
            refine wpAnyH_done (by kernel_rfl) ?_ _
            clear hHeld cw1 cw2
            obtain ⟨ag3, cg3, rfl, _⟩ := WdsAt.own HA.out.row
            go_wp2_with fail
            go_roundg (gk - 1)
            case measure => omega
            case rel => exact ⟨l' ++ [f q, f q1], setO o i, ag3, cg3, by rw [hl3], by rw [hl3]; omega, hgM, by omega, HA, HD2, HLu4⟩
          refine AllReadyH.cons (o := { dst := some 77, op := Op.buildSlice 24 2 #[(0, Operand.tmp 68), (1, Operand.tmp 76)], type := 24, pos := "ref.go:57", after := #[{ on := 9, ground := Ground.data }, { on := 17, ground := Ground.data }], guard := none }) rfl (fun K hK => ?_) AllReadyH.nil
          go_simp
          have HT := Lib.hid (wds_two wb1 (f q) (f q1))
          have HA' := Lib.hid (HA.out.below (below_new wb1 (.cells #[.int .u64 (f q), .int .u64 (f q1)] 35)))
          have hTM : M ≤ wb1.heap.size := HA.out.le
          have HE' := Lib.hid (ownsRow_below4 HE.out (below_new wb1 (.cells #[.int .u64 (f q), .int .u64 (f q1)] 35)))
          have hTE : wb1.heap.size ≠ E := by have := (HE.out.lt E rfl).2; omega
          clear hHeld HA cw1 cw2 HE
          have HA := HA'
          clear HA'
          have HE := HE'
          clear HE'
          have HTl0 : Hid (wb1.heap.size < (wb1.alloc (.cells #[.int .u64 (f q), .int .u64 (f q1)] 35)).heap.size) := Lib.hid (by simp)
          generalize (wb1.alloc (.cells #[.int .u64 (f q), .int .u64 (f q1)] 35)) = wb2 at *
          generalize wb1.heap.size = T at *
          have HTl := HTl0
          clear HTl0
          have cw1 : wb2.cell? ⟨bz, off + q, none⟩ = some (.int .u64 (f q)) := by
            obtain ⟨b', off', e, h⟩ := (HWd.out.below HA.out.old).at' (k := q) (by omega)
            obtain ⟨rfl, rfl⟩ : bz = b' ∧ off = off' := by simpa using e
            exact h
          have cw2 : wb2.cell? ⟨bz, off + q1, none⟩ = some (.int .u64 (f q1)) := by
            obtain ⟨b', off', e, h⟩ := (HWd.out.below HA.out.old).at' (k := q1) (by omega)
            obtain ⟨rfl, rfl⟩ : bz = b' ∧ off = off' := by simpa using e
            exact h
          refine hK.out _ _ ?_ (fun hHeld => ?_)
          · exact ⟨cw1, cw2⟩
          clear hK K
          try simp only [Act.put, List.setIfInBounds_toArray, List.set_cons_zero, List.set_cons_succ]
          refine wpAnyH_ready (rs := [2]) (by kernel_rfl) (by simp) ?_
          refine AllReadyH.cons (o := { dst := some 61, op := Op.call { callee := Callee.builtin Builtin.append, args := #[Operand.tmp 59, Operand.tmp 60], argTypes := #[24, 24] }, type := 24, pos := "ref.go:57", after := #[{ on := 0, ground := Ground.data }, { on := 1, ground := Ground.data }], guard := none }) rfl (fun K hK => ?_) AllReadyH.nil
          refine step_append_own (by rfl) _ _ _ (by rfl) M 35 i0 (.int .u64 0) 1 8 Tryd.underlying24 hi hz0 hz1 hz2 rfl (by decide) (.slice (some ⟨E, 0, none⟩) 0 0) 0 [] (by rfl) (HE.out.mono hEM) ⟨gb, 0, none⟩ k cg (wdsV l') (by rfl) (by rw [wdsV_length, hk]; omega) (rowNews (by have := HA.out.row; rwa [hk] at this) hk) wdsV_one (by unfold maxLen; omega) (by omega) HA.out.le ?_
          intro v1 wb3 hown1 hgrow _
          rw [Nat.zero_add, List.nil_append] at hown1
          have HA' := Lib.hid (HA.out.grow (l' := l') hgrow (fun j e => by cases e; exact hEM) (by rw [hk]; exact hown1))
          have HT' := Lib.hid (HT.out.block (hgrow.block T HTl.out (fun e => by cases e; exact hTE rfl)) hgrow.size)
          have HTl' : Hid (T < wb3.heap.size) := Lib.hid (Nat.lt_of_lt_of_le HTl.out hgrow.size)
          clear hHeld HA HE hown1 hgrow cw1 cw2 HT HTl hTE
          have HA := HA'
          clear HA'
          have HT := HT'; have HTl := HTl'
          clear HT' HTl'
          have cw1 : wb3.cell? ⟨bz, off + q, none⟩ = some (.int .u64 (f q)) := by
            obtain ⟨b', off', e, h⟩ := (HWd.out.below HA.out.old).at' (k := q) (by omega)
            obtain ⟨rfl, rfl⟩ : bz = b' ∧ off = off' := by simpa using e
            exact h
          have cw2 : wb3.cell? ⟨bz, off + q1, none⟩ = some (.int .u64 (f q1)) := by
            obtain ⟨b', off', e, h⟩ := (HWd.out.below HA.out.old).at' (k := q1) (by omega)
            obtain ⟨rfl, rfl⟩ : bz = b' ∧ off = off' := by simpa using e
            exact h
          refine hK.out _ _ ?_ (fun hHeld => ?_)
          · exact ⟨cw1, cw2⟩
          clear hK K
          try simp only [Act.put, List.setIfInBounds_toArray, List.set_cons_zero, List.set_cons_succ]
          refine wpAnyH_ready (rs := [19]) (by kernel_rfl) (by simp) ?_
          refine AllReadyH.cons (o := { dst := some 78, op := Op.call { callee := Callee.builtin Builtin.append, args := #[Operand.tmp 61, Operand.tmp 77], argTypes := #[24, 24] }, type := 24, pos := "ref.go:57", after := #[{ on := 2, ground := Ground.data }, { on := 18, ground := Ground.data }, { on := 2, ground := Ground.chain }], guard := none }) rfl (fun K hK => ?_) AllReadyH.nil
          refine step_append_own (by rfl) _ _ _ (by rfl) M 35 i0 (.int .u64 0) 1 8 Tryd.underlying24 hi hz0 hz1 hz2 rfl (by decide) v1 k (wdsV l') (by rfl) (by have := HA.out.row; rwa [hk] at this) ⟨T, 0, none⟩ 2 2 (wdsV [f q, f q1]) (by rfl) rfl (HT.out.news (by simp)) wdsV_one (by unfold maxLen; omega) (by omega) HA.out.le ?_
          intro v2 wb4 hown1 hgrow _
          have hl3 : (l' ++ [f q, f q1]).length = k + 2 := by rw [List.length_append, hk]; rfl
          have HA' := Lib.hid (HA.out.grow (l' := l' ++ [f q, f q1]) hgrow (fun j e => (HA.out.row.lt j e).1) (by rw [hl3, wdsV_append]; exact hown1))
          clear hHeld HA HT HTl hown1 hgrow cw1 cw2
          have HA := HA'
          clear HA'
          have cw1 : wb4.cell? ⟨bz, off + q, none⟩ = some (.int .u64 (f q)) := by
            obtain ⟨b', off', e, h⟩ := (HWd.out.below HA.out.old).at' (k := q) (by omega)
            obtain ⟨rfl, rfl⟩ : bz = b' ∧ off = off' := by simpa using e
            exact h
          have cw2 : wb4.cell? ⟨bz, off + q1, none⟩ = some (.int .u64 (f q1)) := by
            obtain ⟨b', off', e, h⟩ := (HWd.out.below HA.out.old).at' (k := q1) (by omega)
            obtain ⟨rfl, rfl⟩ : bz = b' ∧ off = off' := by simpa using e
            exact h
          refine hK.out _ _ ?_ (fun hHeld => ?_)
          · exact ⟨cw1, cw2⟩
          clear hK K
          try simp only [Act.put, List.setIfInBounds_toArray, List.set_cons_zero, List.set_cons_succ]
          refine wpAnyH_take (i := 20) (oi := { dst := some 9, op := Op.assign (Operand.tmp 78), type := 24, pos := "ref.go:57", after := #[{ on := 19, ground := Ground.data }, { on := 19, ground := Ground.chain }, { on := 0, ground := Ground.phase }, { on := 1, ground := Ground.phase }, { on := 2, ground := Ground.phase }, { on := 3, ground := Ground.phase }, { on := 4, ground := Ground.phase }, { on := 5, ground := Ground.phase }, { on := 6, ground := Ground.phase }, { on := 7, ground := Ground.phase }, { on := 8, ground := Ground.phase }, { on := 9, ground := Ground.phase }, { on := 10, ground := Ground.phase }, { on := 11, ground := Ground.phase }, { on := 12, ground := Ground.phase }, { on := 13, ground := Ground.phase }, { on := 14, ground := Ground.phase }, { on := 15, ground := Ground.phase }, { on := 16, ground := Ground.phase }, { on := 17, ground := Ground.phase }, { on := 18, ground := Ground.phase }, { on := 19, ground := Ground.phase }], guard := none }) (v := ?vm520) rfl (by kernel_rfl) (by kernel_rfl) (by kernel_rfl) (fun _ _ _ h => h) (Or.inl ⟨by rfl, ?hym520⟩) hHeld ?_
          case hym520 => (intro w hSw; (try dsimp only at hSw); go_simp; (try with_reducible rfl))
          try simp only [Act.put, List.setIfInBounds_toArray, List.set_cons_zero, List.set_cons_succ]
          refine wpAnyH_done (by kernel_rfl) ?_ _
          clear hHeld cw1 cw2
          obtain ⟨ag3, cg3, rfl, _⟩ := WdsAt.own HA.out.row
          go_wp2_with fail
          go_roundg (gk - 1)
          case measure => omega
          case rel => exact ⟨l' ++ [f q, f q1], setO o i, ag3, cg3, by rw [hl3], by rw [hl3]; omega, hgM, by omega, HA, HD2, HLu4⟩
        refine AllReadyH.cons (o := { dst := some 77, op := Op.buildSlice 24 2 #[(0, Operand.tmp 68), (1, Operand.tmp 76)], type := 24, pos := "ref.go:57", after := #[{ on := 9, ground := Ground.data }, { on := 17, ground := Ground.data }], guard := none }) rfl (fun K hK => ?_) AllReadyH.nil
        go_simp
        have HT := Lib.hid ((wds_two wa (f q) (f q1)).below (Below.refl _ _).drew)
        have HA' := Lib.hid (HA.out.below (below_new wa (.cells #[.int .u64 (f q), .int .u64 (f q1)] 35))).drew
        have hTM : M ≤ wa.heap.size := HA.out.le
        clear hHeld HA cw1 cw2
        have HA := HA'
        clear HA'
        have HTl0 : Hid (wa.heap.size < (wa.alloc (.cells #[.int .u64 (f q), .int .u64 (f q1)] 35)).drew.heap.size) := Lib.hid (by simp)
        generalize (wa.alloc (.cells #[.int .u64 (f q), .int .u64 (f q1)] 35)).drew = wb1 at *
        generalize wa.heap.size = T at *
        have HTl := HTl0
        clear HTl0
        have cw1 : wb1.cell? ⟨bz, off + q, none⟩ = some (.int .u64 (f q)) := by
          obtain ⟨b', off', e, h⟩ := (HWd.out.below HA.out.old).at' (k := q) (by omega)
          obtain ⟨rfl, rfl⟩ : bz = b' ∧ off = off' := by simpa using e
          exact h
        have cw2 : wb1.cell? ⟨bz, off + q1, none⟩ = some (.int .u64 (f q1)) := by
          obtain ⟨b', off', e, h⟩ := (HWd.out.below HA.out.old).at' (k := q1) (by omega)
          obtain ⟨rfl, rfl⟩ : bz = b' ∧ off = off' := by simpa using e
          exact h
        refine hK.out _ _ ?_ (fun hHeld => ?_)
        · exact ⟨cw1, cw2⟩
        clear hK K
        try simp only [Act.put, List.setIfInBounds_toArray, List.set_cons_zero, List.set_cons_succ]
        refine wpAnyH_ready (rs := [0]) (by kernel_rfl) (by simp) ?_
        refine AllReadyH.cons (o := { dst := some 59, op := Op.buildSlice 24 0 #[], type := 24, pos := "ref.go:57", after := #[], guard := none }) rfl (fun K hK => ?_) AllReadyH.nil
        go_simp
        have HE := Lib.hid (ownsRow_empty wb1)
        have HA' := Lib.hid (HA.out.below (below_new wb1 (.cells #[] 35)))
        have hEM : M ≤ wb1.heap.size := HA.out.le
        have HT' := Lib.hid (HT.out.below (below_new wb1 (.cells #[] 35)))
        have hTE : T ≠ wb1.heap.size := by have := HTl.out; omega
        clear hHeld HA cw1 cw2 HT
        have HA := HA'
        clear HA'
        have HT := HT'
        clear HT'
        generalize (wb1.alloc (.cells #[] 35)) = wb2 at *
        generalize wb1.heap.size = E at *
        have HTl' : Hid (T < wb2.heap.size) := Lib.hid (by rcases HT.out with e | ⟨_, _, e, h, _⟩; simp at e; (cases e; exact h))
        clear HTl
        have HTl := HTl'
        clear HTl'
        have cw1 : wb2.cell? ⟨bz, off + q, none⟩ = some (.int .u64 (f q)) := by
          obtain ⟨b', off', e, h⟩ := (HWd.out.below HA.out.old).at' (k := q) (by omega)
          obtain ⟨rfl, rfl⟩ : bz = b' ∧ off = off' := by simpa using e
          exact h
        have cw2 : wb2.cell? ⟨bz, off + q1, none⟩ = some (.int .u64 (f q1)) := by
          obtain ⟨b', off', e, h⟩ := (HWd.out.below HA.out.old).at' (k := q1) (by omega)
          obtain ⟨rfl, rfl⟩ : bz = b' ∧ off = off' := by simpa using e
          exact h
        refine hK.out _ _ ?_ (fun hHeld => ?_)
        · exact ⟨cw1, cw2⟩
        clear hK K
        try simp only [Act.put, List.setIfInBounds_toArray, List.set_cons_zero, List.set_cons_succ]
        refine wpAnyH_ready (rs := [2]) (by kernel_rfl) (by simp) ?_
        refine AllReadyH.cons (o := { dst := some 61, op := Op.call { callee := Callee.builtin Builtin.append, args := #[Operand.tmp 59, Operand.tmp 60], argTypes := #[24, 24] }, type := 24, pos := "ref.go:57", after := #[{ on := 0, ground := Ground.data }, { on := 1, ground := Ground.data }], guard := none }) rfl (fun K hK => ?_) AllReadyH.nil
        refine step_append_own (by rfl) _ _ _ (by rfl) M 35 i0 (.int .u64 0) 1 8 Tryd.underlying24 hi hz0 hz1 hz2 rfl (by decide) (.slice (some ⟨E, 0, none⟩) 0 0) 0 [] (by rfl) (HE.out.mono hEM) ⟨gb, 0, none⟩ k cg (wdsV l') (by rfl) (by rw [wdsV_length, hk]; omega) (rowNews (by have := HA.out.row; rwa [hk] at this) hk) wdsV_one (by unfold maxLen; omega) (by omega) HA.out.le ?_
        intro v1 wb3 hown1 hgrow _
        rw [Nat.zero_add, List.nil_append] at hown1
        have HA' := Lib.hid (HA.out.grow (l' := l') hgrow (fun j e => by cases e; exact hEM) (by rw [hk]; exact hown1))
        have HT' := Lib.hid (HT.out.block (hgrow.block T HTl.out (fun e => by cases e; exact hTE rfl)) hgrow.size)
        have HTl' : Hid (T < wb3.heap.size) := Lib.hid (Nat.lt_of_lt_of_le HTl.out hgrow.size)
        clear hHeld HA HE hown1 hgrow cw1 cw2 HT HTl hTE
        have HA := HA'
        clear HA'
        have HT := HT'; have HTl := HTl'
        clear HT' HTl'
        have cw1 : wb3.cell? ⟨bz, off + q, none⟩ = some (.int .u64 (f q)) := by
          obtain ⟨b', off', e, h⟩ := (HWd.out.below HA.out.old).at' (k := q) (by omega)
          obtain ⟨rfl, rfl⟩ : bz = b' ∧ off = off' := by simpa using e
          exact h
        have cw2 : wb3.cell? ⟨bz, off + q1, none⟩ = some (.int .u64 (f q1)) := by
          obtain ⟨b', off', e, h⟩ := (HWd.out.below HA.out.old).at' (k := q1) (by omega)
          obtain ⟨rfl, rfl⟩ : bz = b' ∧ off = off' := by simpa using e
          exact h
        refine hK.out _ _ ?_ (fun hHeld => ?_)
        · exact ⟨cw1, cw2⟩
        clear hK K
        try simp only [Act.put, List.setIfInBounds_toArray, List.set_cons_zero, List.set_cons_succ]
        refine wpAnyH_ready (rs := [19]) (by kernel_rfl) (by simp) ?_
        refine AllReadyH.cons (o := { dst := some 78, op := Op.call { callee := Callee.builtin Builtin.append, args := #[Operand.tmp 61, Operand.tmp 77], argTypes := #[24, 24] }, type := 24, pos := "ref.go:57", after := #[{ on := 2, ground := Ground.data }, { on := 18, ground := Ground.data }, { on := 2, ground := Ground.chain }], guard := none }) rfl (fun K hK => ?_) AllReadyH.nil
        refine step_append_own (by rfl) _ _ _ (by rfl) M 35 i0 (.int .u64 0) 1 8 Tryd.underlying24 hi hz0 hz1 hz2 rfl (by decide) v1 k (wdsV l') (by rfl) (by have := HA.out.row; rwa [hk] at this) ⟨T, 0, none⟩ 2 2 (wdsV [f q, f q1]) (by rfl) rfl (HT.out.news (by simp)) wdsV_one (by unfold maxLen; omega) (by omega) HA.out.le ?_
        intro v2 wb4 hown1 hgrow _
        have hl3 : (l' ++ [f q, f q1]).length = k + 2 := by rw [List.length_append, hk]; rfl
        have HA' := Lib.hid (HA.out.grow (l' := l' ++ [f q, f q1]) hgrow (fun j e => (HA.out.row.lt j e).1) (by rw [hl3, wdsV_append]; exact hown1))
        clear hHeld HA HT HTl hown1 hgrow cw1 cw2
        have HA := HA'
        clear HA'
        have cw1 : wb4.cell? ⟨bz, off + q, none⟩ = some (.int .u64 (f q)) := by
          obtain ⟨b', off', e, h⟩ := (HWd.out.below HA.out.old).at' (k := q) (by omega)
          obtain ⟨rfl, rfl⟩ : bz = b' ∧ off = off' := by simpa using e
          exact h
        have cw2 : wb4.cell? ⟨bz, off + q1, none⟩ = some (.int .u64 (f q1)) := by
          obtain ⟨b', off', e, h⟩ := (HWd.out.below HA.out.old).at' (k := q1) (by omega)
          obtain ⟨rfl, rfl⟩ : bz = b' ∧ off = off' := by simpa using e
          exact h
        refine hK.out _ _ ?_ (fun hHeld => ?_)
        · exact ⟨cw1, cw2⟩
        clear hK K
        try simp only [Act.put, List.setIfInBounds_toArray, List.set_cons_zero, List.set_cons_succ]
        refine wpAnyH_take (i := 20) (oi := { dst := some 9, op := Op.assign (Operand.tmp 78), type := 24, pos := "ref.go:57", after := #[{ on := 19, ground := Ground.data }, { on := 19, ground := Ground.chain }, { on := 0, ground := Ground.phase }, { on := 1, ground := Ground.phase }, { on := 2, ground := Ground.phase }, { on := 3, ground := Ground.phase }, { on := 4, ground := Ground.phase }, { on := 5, ground := Ground.phase }, { on := 6, ground := Ground.phase }, { on := 7, ground := Ground.phase }, { on := 8, ground := Ground.phase }, { on := 9, ground := Ground.phase }, { on := 10, ground := Ground.phase }, { on := 11, ground := Ground.phase }, { on := 12, ground := Ground.phase }, { on := 13, ground := Ground.phase }, { on := 14, ground := Ground.phase }, { on := 15, ground := Ground.phase }, { on := 16, ground := Ground.phase }, { on := 17, ground := Ground.phase }, { on := 18, ground := Ground.phase }, { on := 19, ground := Ground.phase }], guard := none }) (v := ?vm820) rfl (by kernel_rfl) (by kernel_rfl) (by kernel_rfl) (fun _ _ _ h => h) (Or.inl ⟨by rfl, ?hym820⟩) hHeld ?_
        case hym820 => (intro w hSw; (try dsimp only at hSw); go_simp; (try with_reducible rfl))
        try simp only [Act.put, List.setIfInBounds_toArray, List.set_cons_zero, List.set_cons_succ]
        refine wpAnyH_done (by kernel_rfl) ?_ _
        clear hHeld cw1 cw2
        obtain ⟨ag3, cg3, rfl, _⟩ := WdsAt.own HA.out.row
        go_wp2_with fail
        go_roundg (gk - 1)
        case measure => omega
        case rel => exact ⟨l' ++ [f q, f q1], setO o i, ag3, cg3, by rw [hl3], by rw [hl3]; omega, hgM, by omega, HA, HD2, HLu4⟩
      · rw [hoi] at co
        have HD2 := Lib.hid (HD.out.again hoi)
        clear HD
        go_wp2_with fail
        go_roundg (gk - 1)
        case measure => omega
        case rel => exact ⟨l', o, some ⟨gb, 0, none⟩, cg, by rw [hk], by rw [hk]; omega, hgM, by omega, HC, HD2, HLu3⟩
end Go.Proofs.YthdcapkchjamoaaDoor
