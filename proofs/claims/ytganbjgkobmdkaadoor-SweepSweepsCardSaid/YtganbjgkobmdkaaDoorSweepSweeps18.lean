/- SweepSweeps answers true. -/
import Derived.Test.YtganbjgkobmdkaaDoorSweepAwake
import Derived.Test.YtganbjgkobmdkaaDoorM5
import Derived.Test.YtganbjgkobmdkaaDoorTwo
namespace Go.Proofs.YtganbjgkobmdkaaDoor
open Go Go.RowKit
set_option maxRecDepth 100000
attribute [local go_sem ↓] Go.wp_at_zero Go.wp_at_succ

set_option maxHeartbeats 12800000 in
theorem sweeps_any (a b c d : Int) (v0 : Option Addr) (n c0 : Nat) (f : Nat → Int) (hcap : n ≤ c0) (w : World) (hS : SpansAt w) (hG : Given w v0 n c0 f) :
    Calls Tryd.prog 4 #[.agg #[.int .i64 a, .int .i64 b, .int .i64 c, .int .i64 d], .slice v0 n c0] w fun e w' => e = .returned (.bool true) ∧ Below w.heap.size w w' := by
  have HB0 := Lib.hid (below_new w (.cells #[.int .i64 a, .int .i64 b, .int .i64 c, .int .i64 d] 23))
  have HX0 := Lib.hid (BoxAt.new w a b c d 23)
  have HS := Lib.hid hS; have HG := Lib.hid hG
  clear hS hG
  obtain ⟨x0, x1, x2, x3⟩ := HX0.out
  go_enter Tryd.func4, Tryd.ntmps4
  go_wp2_with fail
  refine (awake18_c _ (HS.out.below HB0.out)).mono ?_
  rintro e W1 ⟨rfl, hW⟩
  have HB1 := Lib.hid (belowOn HB0.out hW)
  have HX1 := Lib.hid (HX0.out.below hW)
  clear hW HB0 HX0 x0 x1 x2 x3
  obtain ⟨x0, x1, x2, x3⟩ := HX1.out
  go_wp2_with fail
  refine (Both_any a b c d v0 n c0 f _ (HS.out.below HB1.out) ⟨HG.out.1, HG.out.2.1.below HB1.out, HG.out.2.2⟩).mono ?_
  rintro e W2 (⟨_, rfl, hW⟩ | ⟨hok, P, rfl, hT⟩)
  · have HB2 := Lib.hid (belowOn HB1.out hW); have HX2 := Lib.hid (HX1.out.below hW)
    have HL : Hid (∀ W, WordsAt W v0 n f → Calls Tryd.prog 12 #[.agg #[.int .i64 a, .int .i64 b, .int .i64 c, .int .i64 d], .slice v0 n c0] W fun e w' => ∃ r, ListPost W r e w') := Lib.hid (fun W h => rlist_any a b c d v0 n c0 f HG.out.2.2.1 W h)
    clear hW HX1 HB1 x0 x1 x2 x3
    obtain ⟨x0, x1, x2, x3⟩ := HX2.out
    go_wp2_with fail
    refine (HL.out _ (HG.out.2.1.below HB2.out)).mono ?_
    rintro e W3 ⟨r, vv, rfl, _, hW⟩
    have HB3 := Lib.hid (belowOn HB2.out hW)
    generalize r.isSome = rb at *
    clear hW HB2 HX2 HL x0 x1 x2 x3
    go_wp2_with fail
    go_ret
    exact ⟨rfl, HB3.out⟩
  have hC : CfOK ⟨n, a, b, c, d⟩ := ⟨hok.2.1, hok.2.2⟩
  have HU : Hid (∀ j, U64 (f j)) := Lib.hid HG.out.2.2.1
  have hn20 : n ≤ 20000 := by have := hok.2.1.prod; have h1 := hok.2.2; have h2 := hok.2.1; unfold Right at h2; omega
  have HK := Lib.hid hC; have HR := Lib.hid hok.2.1
  have hn0 : 0 < n := hC.pos
  have HS1 := Lib.hid (HS.out.below HB1.out)
  have HW1 := Lib.hid (HG.out.2.1.below HB1.out)
  have HLi : Hid (∀ W f' va c1, (∀ j, U64 (f' j)) → WordsAt W va n f' → Calls Tryd.prog 12 #[.agg #[.int .i64 a, .int .i64 b, .int .i64 c, .int .i64 d], .slice va n c1] W (ListPost W (listF (nxF b c d f') a.toNat (f' 0)))) := Lib.hid (fun W f' va c1 h1 h2 => rlist_right a b c d hok.2.1 va n c1 f' hok.2.2 h1 W h2)
  have lH : W1.heap.size ≤ P.H := hT.both.lH
  have lG : W1.heap.size ≤ P.G := hT.both.lG
  have hH := hT.hand
  have hold := hT.old
  generalize P.H = H at *
  generalize P.A = A at *
  generalize P.G = G at *
  generalize P.X = X at *
  have HH := Lib.hid hH; have HO := Lib.hid hold
  have ha4 : 2 ≤ a ∧ a ≤ 4096 := by have := HK.out.a4; exact ⟨this.1, this.2.1⟩
  clear hT hok hC HG HS hH hold P x0 x1 x2 x3
  obtain ⟨N, rfl⟩ : ∃ N : Nat, a = (N : Int) := ⟨a.toNat, by omega⟩
  rw [Int.toNat_natCast] at HLi
  obtain ⟨x0, x1, x2, x3⟩ := HX1.out.below HO.out
  go_wp2_with fail
  refine (HLi.out _ f v0 c0 HU.out (HW1.out.below HO.out)).mono ?_
  rintro e W3 ⟨vv, rfl, hrow, hW⟩
  have HO3 := Lib.hid (belowOn HO.out hW); have HH3 := Lib.hid (HH.out.below hW)
  have hgH : H < W2.heap.size := HH.out.lt
  have hgA : A < W2.heap.size := HH.out.ar.lt
  have hgG : G < W2.heap.size := HH.out.ar.row.lt
  clear hW HO HH x0 x1 x2 x3
  generalize hls : listF (nxF b c d f) N (f 0) = r at *
  cases r with
  | none =>
    clear hrow
    have HE := Lib.hid (belowOn HB1.out HO3.out)
    clear HO3 HH3
    go_wp2_with fail
    go_ret
    exact ⟨rfl, HE.out⟩
  | some L =>
    simp only [Option.getD_some, Option.isSome_some] at hrow ⊢
    obtain ⟨hch, hLn⟩ := listF_some.1 hls
    obtain ⟨va, vc, rfl, hI, hlt, hz, _⟩ := IntsAt.own hrow
    obtain ⟨g, rfl⟩ : ∃ g, va = some ⟨g, 0, none⟩ := by
      rcases hz with h | h
      · rcases hI with q | ⟨_, _, q, _⟩
        · exact absurd q hLn
        · rw [h] at q; cases q
      · exact h
    have hgl := hlt g rfl
    have hLa : L.length ≤ N := nodup_le hch.nodup (fun i hi => hch.lt hi)
    have hL0 : 0 < L.length := List.length_pos_iff.2 hLn
    have HLt : Hid (∀ i ∈ L, i < N) := Lib.hid (fun i hi => hch.lt hi)
    have HCh := Lib.hid hch
    have HI := Lib.hid hI
    obtain ⟨ll, hll⟩ : ∃ ll, L.length = ll := ⟨_, rfl⟩
    rw [hll] at hLa hL0 ⊢
    have HLl := Lib.hid hll
    clear hll hch hI hlt hz hrow hls hLn
    obtain ⟨base, hbase⟩ : ∃ base : Nat, 5 + b + d + b * c = (base : Int) := ⟨(5 + b + d + b * c).toNat, by have := HR.out.prod; have h2 := HR.out; unfold Right at h2; omega⟩
    have hsz := HK.out.size
    dsimp only at hsz
    have hbn : (n : Int) - 3 * (N : Int) = (base : Int) := by omega
    have hbN : base + 3 * N = n := by omega
    have HBs := Lib.hid hbase
    have hwa : IntKind.i64.wrap (3 * (N : Int)) = 3 * (N : Int) := IntWalk.i64_in _ (by omega)
    have hwb : IntKind.i64.wrap ((n : Int) - 3 * (N : Int)) = (base : Int) := by rw [hbn]; exact IntWalk.i64_in _ (by omega)
    obtain ⟨bz, off, rfl, _⟩ := HW1.out.at' hn0
    obtain ⟨x0, x1, x2, x3⟩ := HX1.out.below HO3.out
    clear hsz hbn hbase
    go_wp2_with fail
    clear x0 x1 x2 x3 hwa hwb
    go_loopw [11] (fun iv wr => ∃ k : Nat, iv = .int .i64 k ∧ k ≤ ll ∧ Hid (wr = W3) ∧ Hid (∀ j, j < k → f (colI ⟨n, N, b, c, d⟩ (L.getD j 0)) ≠ 0)) (fun iv _ => ll - (intOf iv).toNat)
    case atStart => exact ⟨0, rfl, by omega, Lib.hid rfl, Lib.hid (fun i hi => absurd hi (by omega))⟩
    case round =>
      obtain ⟨k, rfl, hk, hwr, HN⟩ := hrel
      obtain rfl := hwr.out
      by_cases hkl : k < ll
      · obtain ⟨i, hi⟩ : ∃ i, L.getD k 0 = i := ⟨_, rfl⟩
        have hiN : i < N := by rw [← hi]; exact HLt.out _ (by rw [List.getD_eq_getElem?_getD, List.getElem?_eq_getElem (by rw [HLl.out]; exact hkl)]; exact List.getElem_mem _)
        have hq := (part_at HK.out (i := i) (by dsimp only; omega)).1
        dsimp only at hq
        rw [HBs.out] at hq
        obtain ⟨q, hqq⟩ : ∃ q, colI ⟨n, N, b, c, d⟩ i = q := ⟨_, rfl⟩
        rw [hqq] at hq
        have hqn : q < n := by omega
        have ck : wr.cell? ⟨g, k, none⟩ = some (.int .i64 (i : Int)) := by
          obtain ⟨b', off', e, h⟩ := HI.out.at' (j := k) (by rw [HLl.out]; exact hkl)
          obtain ⟨rfl, rfl⟩ : g = b' ∧ 0 = off' := by simpa using e
          rw [Nat.zero_add, hi] at h
          exact h
        have cq : wr.cell? ⟨bz, off + q, none⟩ = some (.int .u64 (f q)) := by
          obtain ⟨b', off', e, h⟩ := (HW1.out.below HO3.out).at' hqn
          obtain ⟨rfl, rfl⟩ : bz = b' ∧ off = off' := by simpa using e
          exact h
        have w1 : IntKind.i64.wrap (3 * (i : Int)) = 3 * (i : Int) := IntWalk.i64_in _ (by omega)
        have w2 : IntKind.i64.wrap ((base : Int) + 3 * (i : Int)) = (base : Int) + 3 * (i : Int) := IntWalk.i64_in _ (by omega)
        have w3 : IntKind.i64.wrap ((base : Int) + 3 * (i : Int) + 2) = (q : Int) := by rw [← hq]; exact IntWalk.i64_in _ (by omega)
        have hk0 : (0 : Int) ≤ (k : Int) := by omega
        have hkI : (k : Int) < (ll : Int) := by omega
        have hq0 : (0 : Int) ≤ (q : Int) := by omega
        have hqI : (q : Int) < (n : Int) := by omega
        have hk1 : IntKind.i64.wrap ((k : Int) + 1) = (k : Int) + 1 := IntWalk.i64_in _ (by omega)
        by_cases hf : f q = 0
        · rw [hf] at cq
          have HE := Lib.hid (belowOn HB1.out HO3.out)
          clear hf hq hqq hi HN HO3 HH3
          go_wp2_with fail
          go_ret
          exact ⟨rfl, HE.out⟩
        · have HN2 : Hid (∀ j, j < k + 1 → f (colI ⟨n, N, b, c, d⟩ (L.getD j 0)) ≠ 0) := Lib.hid (fun j hj => by
            by_cases e : j = k
            · subst e; rw [hi, hqq]; exact hf
            · exact HN.out j (by omega))
          have hfe : (f q == 0) = false := by simpa using hf
          generalize f q = fq at *
          clear hf hq hqq hi HN
          go_wp2_with fail
          go_roundw
          case rel => exact ⟨k + 1, by go_num, by omega, Lib.hid (by first | trivial | rfl), HN2⟩
          case measure => simp [intOf]; omega
      obtain rfl : k = ll := by omega
      clear hwr
      have HNW : Hid (∀ i ∈ L, f (colI ⟨n, N, b, c, d⟩ i) ≠ 0) := Lib.hid (fun i hi => by
        obtain ⟨j, hj, e⟩ := List.getElem_of_mem hi
        have := HN.out j (by rw [← HLl.out]; exact hj)
        rw [List.getD_eq_getElem?_getD, List.getElem?_eq_getElem hj] at this
        simp only [Option.getD_some] at this
        rw [e] at this; exact this)
      obtain ⟨t, ht⟩ : ∃ t, L.getD (k - 1) 0 = t := ⟨_, rfl⟩
      have htl : L.getLast? = some t := by
        rw [List.getLast?_eq_getElem?, HLl.out, ← ht, List.getD_eq_getElem?_getD, List.getElem?_eq_getElem (by rw [HLl.out]; omega)]; rfl
      have HTl := Lib.hid htl
      clear htl
      have ct : wr.cell? ⟨g, k - 1, none⟩ = some (.int .i64 (t : Int)) := by
        obtain ⟨b', off', e, h⟩ := HI.out.at' (j := k - 1) (by rw [HLl.out]; omega)
        obtain ⟨rfl, rfl⟩ : g = b' ∧ 0 = off' := by simpa using e
        rw [Nat.zero_add, ht] at h
        exact h
      have htN : t < N := by rw [← ht]; exact HLt.out _ (by rw [List.getD_eq_getElem?_getD, List.getElem?_eq_getElem (by rw [HLl.out]; omega)]; exact List.getElem_mem _)
      have hw1 : IntKind.i64.wrap ((k : Int) - 1) = ((k - 1 : Nat) : Int) := by rw [IntWalk.i64_in _ (by omega)]; omega
      have hk0 : (0 : Int) ≤ ((k - 1 : Nat) : Int) := by omega
      have hkI : ((k - 1 : Nat) : Int) < (k : Int) := by omega
      have HT4 := Lib.hid (CkW.first (C := ⟨n, N, b, c, d⟩) (s := ⟨f, 0, 0, 0, 0, 0⟩) HO3.out HH3.out lH lG ⟨20, 0, 0, 0, 0, 0, false, (t : Int), 0⟩)
      have HQ5 := Lib.hid (SwW.first HT4.out (HI.out.below (below_new wr (.cells #[.int .i64 20, .int .i64 0, .int .i64 0, .int .i64 0, .int .u64 0, .int .u64 0, .bool false, .int .i64 (t : Int), .int .i64 0] 28))) (by simp; omega) (L := L) ⟨by omega, by omega, by omega⟩)
      rw [show (wr.alloc (.cells #[.int .i64 20, .int .i64 0, .int .i64 0, .int .i64 0, .int .u64 0, .int .u64 0, .bool false, .int .i64 (t : Int), .int .i64 0] 28)).heap.size = wr.heap.size + 1 by simp] at HQ5
      clear HN HT4 HO3 HH3 ht hkl
      have hnews : ∀ j u, (intsV L)[j]? = some u → ((wr.alloc (.cells #[.int .i64 20, .int .i64 0, .int .i64 0, .int .i64 0, .int .u64 0, .int .u64 0, .bool false, .int .i64 (t : Int), .int .i64 0] 28)).alloc (.cells #[] 3)).cell? (Addr.add ⟨g, 0, none⟩ j) = some u := fun j u h => by
        have hj : j < L.length := by have := (List.getElem?_eq_some_iff.1 h).1; rwa [intsV_length] at this
        rw [intsV_get L j hj] at h
        obtain rfl := Option.some.inj h
        obtain ⟨b', off', e, h⟩ := HQ5.out.list.at' hj
        obtain ⟨rfl, rfl⟩ : g = b' ∧ 0 = off' := by simpa using e
        rw [Addr.add_lit]; exact h
      have h1c : ∀ u ∈ intsV L, u.oneCell' = true := fun u hu => by
        unfold intsV at hu; obtain ⟨x, _, rfl⟩ := List.mem_map.1 hu; rfl
      have hlen : (intsV L).length = k * 1 := by rw [intsV_length, HLl.out]; omega
      obtain ⟨i50, hi50, hz0, hz1, hz2⟩ := info_parts infoInt
      have HNw := Lib.hid hnews; have H1c := Lib.hid h1c; have HLn := Lib.hid hlen
      clear hnews h1c hlen
      go_wp2_with (at_builtin; go_loud (refine wpList_append_lies _ (by rfl) _ _ _ (by rfl) (wr.heap.size + 1) 3 i50 _ 1 8 Tryd.underlying41 hi50 hz0 hz1 hz2 rfl (by omega) _ 0 [] (by rfl) HQ5.out.row ⟨g, 0, none⟩ k vc (intsV L) (by rfl) HLn.out HNw.out H1c.out hL0 (by unfold maxLen; omega) (by omega) (by simp) (wr.heap.size + 1 + 1) (by simp) ?_; intro gg cap w2 hown1 hgrow hat hlt2; have HQ6 := Lib.hid (HQ5.out.grow (K' := L) hgrow (by rw [HLl.out]; simpa using hown1))))
      clear hown1 hgrow hat hlt2 HQ5 ct HNw H1c HLn hw1 hk0 hkI
      clear hi50 hz0 hz1 hz2 htN
      generalize hM : wr.heap.size + 1 = M at *
      clear hM
      generalize wr.heap.size = B at *
      go_loopw [13, 14] (fun vv nv wr => ∃ (m : Nat) (Wl : List Nat) (s : Dy) (x : Co), nv = .int .i64 m ∧ m ≤ 5 * N + 1 ∧ Hid (SwW W1 wr H A G B g M ⟨n, N, b, c, d⟩ s x vv (L ++ Wl) L) ∧ Hid (SwSt ⟨n, N, b, c, d⟩ f s.f L 0 m Wl x) ∧ Hid (s.U ∧ x.U)) (fun _ nv _ => 5 * N + 1 - (intOf nv).toNat)
      case atStart => exact ⟨0, [], ⟨f, 0, 0, 0, 0, 0⟩, ⟨20, 0, 0, 0, 0, 0, false, (t : Int), 0⟩, rfl, by omega, by rw [List.append_nil]; exact HQ6, Lib.hid (SwSt.first HK.out (by rw [Int.toNat_natCast]; exact HCh.out) HTl.out ⟨20, 0, 0, 0, 0, 0, false, (t : Int), 0⟩ rfl rfl rfl), Lib.hid ⟨HU.out, u64_zero, u64_zero⟩⟩
      case round =>
        clear HQ6
        obtain ⟨m, Wl, s, x, rfl, hm, HT, HQ, HV⟩ := hrel
        by_cases hl : 20 ≤ x.l
        · obtain ⟨s', x', what, hst, hq, hm5, hc0, hca⟩ := HQ.out.go HK.out HNW.out hl
          dsimp only at hca hm5
          rw [Int.toNat_natCast] at hm5
          have hcy : x.cy = 0 := by rcases HQ.out.line with h | h; exact h.2.2.2.2.1; omega
          have hcb : -1000000000000 ≤ x.c ∧ x.c ≤ 1000000000000 ∧ -1000000000000 ≤ x.cy ∧ x.cy ≤ 1000000000000 := by omega
          have hKl : (L ++ Wl).length ≤ N := by have := nodup_le HQ.out.chain.nodup (fun i hi => HQ.out.chain.lt hi); dsimp only at this; rwa [Int.toNat_natCast] at this
          have HST : Hid (∀ W, CkW W1 W H A G B ⟨n, N, b, c, d⟩ s x → _) := Lib.hid (fun W h => sweep_c (w := W) h.hand HV.out.1 (HS1.out.below h.old) HR.out hn0 x HV.out.2 hcb)
          have HV2 := Lib.hid (sweepS_U HV.out.1 (C := ⟨n, N, b, c, d⟩) x HV.out.2)
          rw [hst] at HST HV2
          have HQ2 := Lib.hid hq
          clear hst hq HV HQ hcb hcy
          obtain ⟨l, j, xc, m2, xa, p, fd, tl, cy⟩ := x
          obtain ⟨l', j', xc', m', xa', p', fd', tl', cy'⟩ := x'
          dsimp only at hl hc0 hca HST HV2 HQ2
          obtain ⟨cn, rfl⟩ : ∃ cn : Nat, xc = (cn : Int) := ⟨xc.toNat, by omega⟩
          rw [Int.toNat_natCast] at HQ2
          obtain ⟨b0, b1, b2, b3, b4, b5, b6, b7, b8, bf⟩ := HT.out.ck.cells9
          obtain ⟨x0, x1, x2, x3⟩ := HX1.out.below HT.out.ck.old
          have hk1 : IntKind.i64.wrap ((m : Int) + 1) = (m : Int) + 1 := IntWalk.i64_in _ (by omega)
          go_wp2_with fail
          refine (HST.out _ HT.out.ck).mono ?_
          rintro e V hp
          obtain ⟨rfl, hT⟩ := HT.out.step hp
          have HT2 := Lib.hid hT
          have hBl : B < V.heap.size := hT.ck.col.lt
          have hBn : B ≠ V.heap.size := by omega
          clear hp hT HT HST b0 b1 b2 b3 b4 b5 b6 b7 b8 bf x0 x1 x2 x3
          obtain ⟨b0, b1, b2, b3, b4, b5, b6, b7, b8, bf⟩ := HT2.out.ck.cells9
          obtain ⟨x0, x1, x2, x3⟩ := HX1.out.below HT2.out.ck.old
          have hXl : w.heap.size < V.heap.size := lt_of_cell x0
          have hXn : w.heap.size ≠ V.heap.size := by omega
          have h5 : IntKind.i64.wrap (5 * (N : Int)) = 5 * (N : Int) := IntWalk.i64_in _ (by omega)
          have d5 : decide (5 * (N : Int) < (m : Int)) = false := decide_eq_false (by omega)
          by_cases hwh : what = 2 ∨ what = 5
          · rw [if_pos hwh] at HQ2
            rcases hwh with rfl | rfl
            · have e2 : ((2 : Int) == 2) = true := rfl
              obtain ⟨i50, hi50, hz0, hz1, hz2⟩ := info_parts infoInt
              have HY := Lib.hid ((Col9.new V l' j' xc' m' xa' p' fd' tl' cy').below (below_new (V.alloc (.cells #[.int .i64 l', .int .i64 j', .int .i64 xc', .int .i64 m', .int .u64 xa', .int .u64 p', .bool fd', .int .i64 tl', .int .i64 cy'] 28)) (.cells #[.int .i64 (cn : Int)] 3)))
              have HTa := Lib.hid ((HT2.out.below (below_new V (.cells #[.int .i64 l', .int .i64 j', .int .i64 xc', .int .i64 m', .int .u64 xa', .int .u64 p', .bool fd', .int .i64 tl', .int .i64 cy'] 28))).below (below_new (V.alloc (.cells #[.int .i64 l', .int .i64 j', .int .i64 xc', .int .i64 m', .int .u64 xa', .int .u64 p', .bool fd', .int .i64 tl', .int .i64 cy'] 28)) (.cells #[.int .i64 (cn : Int)] 3)))
              have hVs : (V.alloc (.cells #[.int .i64 l', .int .i64 j', .int .i64 xc', .int .i64 m', .int .u64 xa', .int .u64 p', .bool fd', .int .i64 tl', .int .i64 cy'] 28)).heap.size = V.heap.size + 1 := by simp
              go_wp2_with (at_builtin; go_loud (refine wpList_append_lies _ (by rfl) _ _ _ (by rfl) M 3 i50 _ 1 8 Tryd.underlying41 hi50 hz0 hz1 hz2 rfl (by omega) _ (L ++ Wl).length _ (by rfl) HTa.out.row ⟨V.heap.size + 1, 0, none⟩ 1 1 [.int .i64 (cn : Int)] (by rfl) (by rfl) (by have := World.news_of_block (cs := #[.int .i64 (cn : Int)]) (t := 3) (fr := (0, 0)) (heap_alloc_new (V.alloc (.cells #[.int .i64 l', .int .i64 j', .int .i64 xc', .int .i64 m', .int .u64 xa', .int .u64 p', .bool fd', .int .i64 tl', .int .i64 cy'] 28)) _); rw [hVs] at this; exact this) (by simp [Value.oneCell']) (by omega) (by unfold maxLen; omega) (by omega) HTa.out.le (V.heap.size + 1 + 1) (by simp) ?_; intro gg cap w2 hown1 hgrow hat hlt2; have HT3 := Lib.hid (HTa.out.grow (K' := L ++ (Wl ++ [cn])) hgrow (by rw [← List.append_assoc, intsV_snoc, List.length_append]; exact hown1)); have HY2 := Lib.hid (HY.out.other (hgrow.block V.heap.size (by simp; omega) (fun e => by have := (HT2.out.row.lt _ e.symm).2; omega))); obtain ⟨y0, y1, y2, y3, y4, y5, y6, y7, y8, yf⟩ := HY2.out.cells; obtain ⟨z0, z1, z2, z3, z4, z5, z6, z7, z8, zf⟩ := HT3.out.ck.cells9; clear b0 b1 b2 b3 b4 b5 b6 b7 b8 bf hgrow hown1 x0 x1 x2 x3))
              clear hat hlt2 HTa HY HT2 hVs hi50 hz0 hz1 hz2 y0 y1 y2 y3 y4 y5 y6 y7 y8 yf z0 z1 z2 z3 z4 z5 z6 z7 z8 zf
              have HT4 := Lib.hid (HT3.out.put ⟨l', j', xc', m', xa', p', fd', tl', cy'⟩)
              rw [List.length_append] at HT4
              go_roundw
              case rel => exact ⟨m + 1, Wl ++ [cn], s', ⟨l', j', xc', m', xa', p', fd', tl', cy'⟩, by go_num, by omega, HT4, HQ2, HV2⟩
              case measure => simp [intOf]; omega
            · have e2 : ((5 : Int) == 2) = false := rfl
              have e5 : ((5 : Int) == 5) = true := rfl
              obtain ⟨i50, hi50, hz0, hz1, hz2⟩ := info_parts infoInt
              have HY := Lib.hid ((Col9.new V l' j' xc' m' xa' p' fd' tl' cy').below (below_new (V.alloc (.cells #[.int .i64 l', .int .i64 j', .int .i64 xc', .int .i64 m', .int .u64 xa', .int .u64 p', .bool fd', .int .i64 tl', .int .i64 cy'] 28)) (.cells #[.int .i64 (cn : Int)] 3)))
              have HTa := Lib.hid ((HT2.out.below (below_new V (.cells #[.int .i64 l', .int .i64 j', .int .i64 xc', .int .i64 m', .int .u64 xa', .int .u64 p', .bool fd', .int .i64 tl', .int .i64 cy'] 28))).below (below_new (V.alloc (.cells #[.int .i64 l', .int .i64 j', .int .i64 xc', .int .i64 m', .int .u64 xa', .int .u64 p', .bool fd', .int .i64 tl', .int .i64 cy'] 28)) (.cells #[.int .i64 (cn : Int)] 3)))
              have hVs : (V.alloc (.cells #[.int .i64 l', .int .i64 j', .int .i64 xc', .int .i64 m', .int .u64 xa', .int .u64 p', .bool fd', .int .i64 tl', .int .i64 cy'] 28)).heap.size = V.heap.size + 1 := by simp
              go_wp2_with (at_builtin; go_loud (refine wpList_append_lies _ (by rfl) _ _ _ (by rfl) M 3 i50 _ 1 8 Tryd.underlying41 hi50 hz0 hz1 hz2 rfl (by omega) _ (L ++ Wl).length _ (by rfl) HTa.out.row ⟨V.heap.size + 1, 0, none⟩ 1 1 [.int .i64 (cn : Int)] (by rfl) (by rfl) (by have := World.news_of_block (cs := #[.int .i64 (cn : Int)]) (t := 3) (fr := (0, 0)) (heap_alloc_new (V.alloc (.cells #[.int .i64 l', .int .i64 j', .int .i64 xc', .int .i64 m', .int .u64 xa', .int .u64 p', .bool fd', .int .i64 tl', .int .i64 cy'] 28)) _); rw [hVs] at this; exact this) (by simp [Value.oneCell']) (by omega) (by unfold maxLen; omega) (by omega) HTa.out.le (V.heap.size + 1 + 1) (by simp) ?_; intro gg cap w2 hown1 hgrow hat hlt2; have HT3 := Lib.hid (HTa.out.grow (K' := L ++ (Wl ++ [cn])) hgrow (by rw [← List.append_assoc, intsV_snoc, List.length_append]; exact hown1)); have HY2 := Lib.hid (HY.out.other (hgrow.block V.heap.size (by simp; omega) (fun e => by have := (HT2.out.row.lt _ e.symm).2; omega))); obtain ⟨y0, y1, y2, y3, y4, y5, y6, y7, y8, yf⟩ := HY2.out.cells; obtain ⟨z0, z1, z2, z3, z4, z5, z6, z7, z8, zf⟩ := HT3.out.ck.cells9; clear b0 b1 b2 b3 b4 b5 b6 b7 b8 bf hgrow hown1 x0 x1 x2 x3))
              clear hat hlt2 HTa HY HT2 hVs hi50 hz0 hz1 hz2 y0 y1 y2 y3 y4 y5 y6 y7 y8 yf z0 z1 z2 z3 z4 z5 z6 z7 z8 zf
              have HT4 := Lib.hid (HT3.out.put ⟨l', j', xc', m', xa', p', fd', tl', cy'⟩)
              rw [List.length_append] at HT4
              go_roundw
              case rel => exact ⟨m + 1, Wl ++ [cn], s', ⟨l', j', xc', m', xa', p', fd', tl', cy'⟩, by go_num, by omega, HT4, HQ2, HV2⟩
              case measure => simp [intOf]; omega
          · rw [if_neg hwh] at HQ2
            have e2 : (what == 2) = false := by simp; omega
            have e5 : (what == 5) = false := by simp; omega
            clear hwh
            go_wp2_with fail
            have HT3 := Lib.hid ((HT2.out.put ⟨l', j', xc', m', xa', p', fd', tl', cy'⟩).below (below_new _ (.cells #[.int .i64 l', .int .i64 j', .int .i64 xc', .int .i64 m', .int .u64 xa', .int .u64 p', .bool fd', .int .i64 tl', .int .i64 cy'] 28)))
            go_roundw
            case rel => exact ⟨m + 1, Wl, s', ⟨l', j', xc', m', xa', p', fd', tl', cy'⟩, by go_num, by omega, HT3, HQ2, HV2⟩
            case measure => simp [intOf]; omega
        · obtain ⟨e1, ecy, elist, hlow, hcells⟩ := HQ.out.fin hl
          dsimp only at elist hlow hcells
          rw [Int.toNat_natCast] at elist
          have hKl : (L ++ Wl).length ≤ N := by have := nodup_le HQ.out.chain.nodup (fun i hi => HQ.out.chain.lt hi); dsimp only at this; rwa [Int.toNat_natCast] at this
          have HLow : Hid (∀ k : Nat, k < base → s.f k = f k) := Lib.hid (fun k hk => hlow k (by rw [HBs.out]; omega))
          have HCe := Lib.hid hcells
          have HVf := Lib.hid HV.out.1
          clear HQ HV hcells hlow hl hm
          have HLs : Hid (∀ W va c1, WordsAt W va n s.f → Calls Tryd.prog 12 #[.agg #[.int .i64 (N : Int), .int .i64 b, .int .i64 c, .int .i64 d], .slice va n c1] W (ListPost W (some (L ++ Wl)))) := Lib.hid (fun W va c1 h => by have := HLi.out W s.f va c1 HVf.out h; rw [elist] at this; exact this)
          clear elist
          generalize L ++ Wl = K at *
          obtain ⟨va, vcap, rfl, hIw, _⟩ := IntsAt.own HT.out.row
          have HIw := Lib.hid hIw
          clear hIw
          obtain ⟨l, j, xc, m2, xa, p, fd, tl, cy⟩ := x
          dsimp only at e1 ecy
          subst e1
          obtain rfl : cy = 1 := by omega
          clear ecy
          have h0 := HT.out.ck.hand.cells.1
          obtain ⟨b0, b1, b2, b3, b4, b5, b6, b7, b8, bf⟩ := HT.out.ck.cells9
          go_wp2_with fail
          refine (All_c HT.out.ck.hand.ar hn20).mono ?_
          rintro e W6 ⟨rfl, hrow, hb⟩
          have HZ : Hid (RnB w W6 wr.heap.size w.heap.size ⟨n, N, b, c, d⟩ (some ⟨bz, off, none⟩) f s.f) := Lib.hid ⟨belowOn HB1.out (belowOn HT.out.ck.old hb), hrow, HW1.out.below (belowOn HT.out.ck.old hb), HX1.out.below (belowOn HT.out.ck.old hb)⟩
          have HT6 := Lib.hid (HT.out.below hb)
          have HIw6 := Lib.hid (HIw.out.below hb)
          generalize s.f = f' at *
          generalize wr.heap.size = Z at *
          clear hrow hb HT HIw h0 b0 b1 b2 b3 b4 b5 b6 b7 b8 bf
          obtain ⟨x0, x1, x2, x3⟩ := HZ.out.box
          dsimp only at x0 x1 x2 x3
          go_wp2_with fail
          refine (HLs.out _ (some ⟨Z, 0, none⟩) n HZ.out.now.words).mono ?_
          rintro e W7 ⟨vv2, rfl, hrow2, hb⟩
          simp only [Option.getD_some, Option.isSome_some] at hrow2 ⊢
          obtain ⟨vb, vbc, rfl, hIg, _⟩ := IntsAt.own hrow2
          have HZ7 := Lib.hid (HZ.out.below hb); have HT7 := Lib.hid (HT6.out.below hb); have HIw7 := Lib.hid (HIw6.out.below hb); have HIg7 := Lib.hid hIg
          clear hrow2 hb hIg HZ HT6 HIw6 HLs x0 x1 x2 x3
          obtain ⟨b0, b1, b2, b3, b4, b5, b6, b7, b8, bf⟩ := HT7.out.ck.cells9
          have hnn : ((n : Int) != (n : Int)) = false := by simp
          go_wp2_with fail
          refine (ints_c K (by omega) _ _ _ _ _ HIg7.out HIw7.out).mono ?_
          rintro e W8 ⟨rfl, hb⟩
          have HZ8 := Lib.hid (HZ7.out.below hb); have HI8 := Lib.hid (HT7.out.list.below hb)
          clear hb HZ7 HT7 HIw7 HIg7 hnn b0 b1 b2 b3 b4 b5 b6 b7 b8 bf
          go_wp2_with fail
          go_loopw [22] (fun kv wr => ∃ q : Nat, kv = .int .i64 q ∧ q ≤ base ∧ Hid (RnB w wr Z w.heap.size ⟨n, N, b, c, d⟩ (some ⟨bz, off, none⟩) f f') ∧ Hid (IntsAt wr (some ⟨g, 0, none⟩) L)) (fun kv _ => base - (intOf kv).toNat)
          case atStart => exact ⟨0, rfl, by omega, HZ8, HI8⟩
          case round =>
            clear HZ8 HI8
            obtain ⟨q, rfl, hq, HZ, HI⟩ := hrel
            by_cases hqb : q < base
            · have cz : wr.drew.cell? ⟨Z, q, none⟩ = some (.int .u64 (f' q)) := HZ.out.now.cell (j := q) (by dsimp only; omega)
              rw [HLow.out q hqb] at cz
              have cw : wr.drew.cell? ⟨bz, off + q, none⟩ = some (.int .u64 (f q)) := by
                obtain ⟨b', off', e, h⟩ := HZ.out.was.at' (k := q) (by dsimp only; omega)
                obtain ⟨rfl, rfl⟩ : bz = b' ∧ off = off' := by simpa using e
                exact h
              generalize f q = fq at *
              have hq0 : (0 : Int) ≤ (q : Int) := by omega
              have hqI : (q : Int) < (base : Int) := by omega
              have hqn : (q : Int) < (n : Int) := by omega
              have hk1 : IntKind.i64.wrap ((q : Int) + 1) = (q : Int) + 1 := IntWalk.i64_in _ (by omega)
              go_wp2_with fail
              refine wp_region_held_drew (S := (fun w' => w'.cell? ⟨Z, q, none⟩ = some (.int .u64 fq) ∧ w'.cell? ⟨bz, off + q, none⟩ = some (.int .u64 fq))) (by kernel_rfl) ?_ (fun hHeld => ?_)
              · exact ⟨cz, cw⟩
              refine wpAnyH_take (i := 0) (oi := { dst := some 156, op := Op.move (Operand.tmp 19), type := 24, pos := "law.go:92", after := #[], guard := none }) (v := ?vt0) rfl (by kernel_rfl) (by kernel_rfl) (by kernel_rfl) (fun _ _ _ h => h) (Or.inl ⟨by rfl, ?hyt0⟩) hHeld ?_
              case hyt0 => (intro w hSw; (try dsimp only at hSw); go_simp; (try with_reducible rfl))
              try simp only [Act.put, List.setIfInBounds_toArray, List.set_cons_zero, List.set_cons_succ]
              refine wpAnyH_take (i := 1) (oi := { dst := some 157, op := Op.move (Operand.tmp 22), type := 3, pos := "law.go:92", after := #[], guard := none }) (v := ?vt1) rfl (by kernel_rfl) (by kernel_rfl) (by kernel_rfl) (fun _ _ _ h => h) (Or.inl ⟨by rfl, ?hyt1⟩) hHeld ?_
              case hyt1 => (intro w hSw; (try dsimp only at hSw); go_simp; (try with_reducible rfl))
              try simp only [Act.put, List.setIfInBounds_toArray, List.set_cons_zero, List.set_cons_succ]
              refine wpAnyH_take (i := 2) (oi := { dst := some 158, op := Op.indexAddr 24 (Operand.tmp 156) (Operand.tmp 157), type := 0, pos := "law.go:92", after := #[{ on := 0, ground := Ground.data }, { on := 1, ground := Ground.data }], guard := none }) (v := ?vt2) rfl (by kernel_rfl) (by kernel_rfl) (by kernel_rfl) (fun _ _ _ h => h) (Or.inl ⟨by rfl, ?hyt2⟩) hHeld ?_
              case hyt2 => (intro w hSw; (try dsimp only at hSw); go_simp; (try with_reducible rfl))
              try simp only [Act.put, List.setIfInBounds_toArray, List.set_cons_zero, List.set_cons_succ]
              refine wpAnyH_take (i := 3) (oi := { dst := some 159, op := Op.load 26 (Operand.tmp 158), type := 26, pos := "law.go:92", after := #[{ on := 2, ground := Ground.data }], guard := none }) (v := ?vt3) rfl (by kernel_rfl) (by kernel_rfl) (by kernel_rfl) (fun _ _ _ h => h) (Or.inl ⟨by rfl, ?hyt3⟩) hHeld ?_
              case hyt3 => (intro w hSw; (try dsimp only at hSw); go_simp; (try with_reducible rfl))
              try simp only [Act.put, List.setIfInBounds_toArray, List.set_cons_zero, List.set_cons_succ]
              refine wpAnyH_take (i := 4) (oi := { dst := some 160, op := Op.move (Operand.tmp 1), type := 24, pos := "law.go:92", after := #[], guard := none }) (v := ?vt4) rfl (by kernel_rfl) (by kernel_rfl) (by kernel_rfl) (fun _ _ _ h => h) (Or.inl ⟨by rfl, ?hyt4⟩) hHeld ?_
              case hyt4 => (intro w hSw; (try dsimp only at hSw); go_simp; (try with_reducible rfl))
              try simp only [Act.put, List.setIfInBounds_toArray, List.set_cons_zero, List.set_cons_succ]
              refine wpAnyH_take (i := 5) (oi := { dst := some 161, op := Op.move (Operand.tmp 22), type := 3, pos := "law.go:92", after := #[], guard := none }) (v := ?vt5) rfl (by kernel_rfl) (by kernel_rfl) (by kernel_rfl) (fun _ _ _ h => h) (Or.inl ⟨by rfl, ?hyt5⟩) hHeld ?_
              case hyt5 => (intro w hSw; (try dsimp only at hSw); go_simp; (try with_reducible rfl))
              try simp only [Act.put, List.setIfInBounds_toArray, List.set_cons_zero, List.set_cons_succ]
              refine wpAnyH_take (i := 6) (oi := { dst := some 162, op := Op.indexAddr 24 (Operand.tmp 160) (Operand.tmp 161), type := 0, pos := "law.go:92", after := #[{ on := 4, ground := Ground.data }, { on := 5, ground := Ground.data }], guard := none }) (v := ?vt6) rfl (by kernel_rfl) (by kernel_rfl) (by kernel_rfl) (fun _ _ _ h => h) (Or.inl ⟨by rfl, ?hyt6⟩) hHeld ?_
              case hyt6 => (intro w hSw; (try dsimp only at hSw); go_simp; (try with_reducible rfl))
              try simp only [Act.put, List.setIfInBounds_toArray, List.set_cons_zero, List.set_cons_succ]
              refine wpAnyH_take (i := 7) (oi := { dst := some 163, op := Op.load 26 (Operand.tmp 162), type := 26, pos := "law.go:92", after := #[{ on := 6, ground := Ground.data }], guard := none }) (v := ?vt7) rfl (by kernel_rfl) (by kernel_rfl) (by kernel_rfl) (fun _ _ _ h => h) (Or.inl ⟨by rfl, ?hyt7⟩) hHeld ?_
              case hyt7 => (intro w hSw; (try dsimp only at hSw); go_simp; (try with_reducible rfl))
              try simp only [Act.put, List.setIfInBounds_toArray, List.set_cons_zero, List.set_cons_succ]
              refine wpAnyH_take (i := 8) (oi := { dst := some 164, op := Op.binOp BinOp.neq 26 (Operand.tmp 159) (Operand.tmp 163) 26, type := 4, pos := "law.go:92", after := #[{ on := 3, ground := Ground.data }, { on := 7, ground := Ground.data }], guard := none }) (v := ?vt8) rfl (by kernel_rfl) (by kernel_rfl) (by kernel_rfl) (fun _ _ _ h => h) (Or.inl ⟨by rfl, ?hyt8⟩) hHeld ?_
              case hyt8 => (intro w hSw; (try dsimp only at hSw); go_simp; (try with_reducible rfl))
              try simp only [Act.put, List.setIfInBounds_toArray, List.set_cons_zero, List.set_cons_succ]
              refine wpAnyH_done (by kernel_rfl) ?_ _
              have HZ3 := Lib.hid HZ.out.drew; have HI3 := Lib.hid HI.out.drew
              clear hHeld HZ HI cz cw
              generalize wr.drew = wd at *
              go_wp2_with fail
              go_roundw
              case rel => exact ⟨q + 1, by go_num, by omega, HZ3, HI3⟩
              case measure => simp [intOf]; omega
            · obtain rfl : q = base := by omega
              have HZ8 := HZ; have HI8 := HI
              clear HZ HI hqb
              go_wp2_with fail
              go_loopw [23] (fun kv wr => ∃ i : Nat, kv = .int .i64 i ∧ i ≤ N ∧ Hid (RnB w wr Z w.heap.size ⟨n, N, b, c, d⟩ (some ⟨bz, off, none⟩) f f') ∧ Hid (IntsAt wr (some ⟨g, 0, none⟩) L)) (fun kv _ => N - (intOf kv).toNat)
              case atStart => exact ⟨0, rfl, by omega, HZ8, HI8⟩
              case round =>
                clear HZ8 HI8
                obtain ⟨i, rfl, hi, HZ, HI⟩ := hrel
                by_cases hiN : i < N
                · obtain ⟨lo, hlo⟩ : ∃ lo, q + 3 * i = lo := ⟨_, rfl⟩
                  have hlon : lo + 3 ≤ n := by omega
                  have w1 : IntKind.i64.wrap (3 * (i : Int)) = 3 * (i : Int) := IntWalk.i64_in _ (by omega)
                  have w2 : IntKind.i64.wrap ((q : Int) + 3 * (i : Int)) = (lo : Int) := by rw [IntWalk.i64_in _ (by omega)]; omega
                  obtain ⟨h3, hh3⟩ : ∃ h3, lo + 3 = h3 := ⟨_, rfl⟩
                  have w3 : IntKind.i64.wrap ((lo : Int) + 3) = (h3 : Int) := by rw [IntWalk.i64_in _ (by omega)]; omega
                  have hiI : (i : Int) < (N : Int) := by omega
                  have hk1 : IntKind.i64.wrap ((i : Int) + 1) = (i : Int) + 1 := IntWalk.i64_in _ (by omega)
                  have l0 : (0 : Int) ≤ (h3 : Int) := by omega
                  have l1 : lo ≤ h3 := by omega
                  have l2 : (h3 : Int) ≤ (c0 : Int) := by omega
                  have l3 : (h3 : Int) ≤ (n : Int) := by omega
                  have l4 : h3 - lo = 3 := by omega
                  have l5 : ¬ c0 = lo := by omega
                  have l6 : ¬ n = lo := by omega
                  obtain ⟨x0, x1, x2, x3⟩ := HZ.out.box
                  dsimp only at x0 x1 x2 x3
                  go_wp2_with fail
                  refine wp_region_held_drew (S := (fun w' => w'.cell? ⟨w.heap.size, 0, none⟩ = some (.int .i64 (N : Int)))) (by kernel_rfl) ?_ (fun hHeld => ?_)
                  · exact x0
                  refine wpAnyH_take (i := 0) (oi := { dst := some 171, op := Op.move (Operand.tmp 1), type := 24, pos := "law.go:97", after := #[], guard := none }) (v := ?vs0) rfl (by kernel_rfl) (by kernel_rfl) (by kernel_rfl) (fun _ _ _ h => h) (Or.inl ⟨by rfl, ?hys0⟩) hHeld ?_
                  case hys0 => (intro w hSw; (try dsimp only at hSw); go_simp; (try with_reducible rfl))
                  try simp only [Act.put, List.setIfInBounds_toArray, List.set_cons_zero, List.set_cons_succ]
                  refine wpAnyH_take (i := 1) (oi := { dst := some 172, op := Op.move (Operand.tmp 10), type := 3, pos := "law.go:97", after := #[], guard := none }) (v := ?vs1) rfl (by kernel_rfl) (by kernel_rfl) (by kernel_rfl) (fun _ _ _ h => h) (Or.inl ⟨by rfl, ?hys1⟩) hHeld ?_
                  case hys1 => (intro w hSw; (try dsimp only at hSw); go_simp; (try with_reducible rfl))
                  try simp only [Act.put, List.setIfInBounds_toArray, List.set_cons_zero, List.set_cons_succ]
                  refine wpAnyH_take (i := 2) (oi := { dst := some 173, op := Op.move (Operand.tmp 23), type := 3, pos := "law.go:97", after := #[], guard := none }) (v := ?vs2) rfl (by kernel_rfl) (by kernel_rfl) (by kernel_rfl) (fun _ _ _ h => h) (Or.inl ⟨by rfl, ?hys2⟩) hHeld ?_
                  case hys2 => (intro w hSw; (try dsimp only at hSw); go_simp; (try with_reducible rfl))
                  try simp only [Act.put, List.setIfInBounds_toArray, List.set_cons_zero, List.set_cons_succ]
                  refine wpAnyH_take (i := 3) (oi := { dst := some 174, op := Op.binOp BinOp.mul 3 (Operand.const (Value.int IntKind.i64 3)) (Operand.tmp 173) 3, type := 3, pos := "law.go:97", after := #[{ on := 2, ground := Ground.data }], guard := none }) (v := ?vs3) rfl (by kernel_rfl) (by kernel_rfl) (by kernel_rfl) (fun _ _ _ h => h) (Or.inl ⟨by rfl, ?hys3⟩) hHeld ?_
                  case hys3 => (intro w hSw; (try dsimp only at hSw); go_simp; (try with_reducible rfl))
                  try simp only [Act.put, List.setIfInBounds_toArray, List.set_cons_zero, List.set_cons_succ]
                  refine wpAnyH_take (i := 4) (oi := { dst := some 175, op := Op.binOp BinOp.add 3 (Operand.tmp 172) (Operand.tmp 174) 3, type := 3, pos := "law.go:97", after := #[{ on := 1, ground := Ground.data }, { on := 3, ground := Ground.data }], guard := none }) (v := ?vs4) rfl (by kernel_rfl) (by kernel_rfl) (by kernel_rfl) (fun _ _ _ h => h) (Or.inl ⟨by rfl, ?hys4⟩) hHeld ?_
                  case hys4 => (intro w hSw; (try dsimp only at hSw); go_simp; (try with_reducible rfl))
                  try simp only [Act.put, List.setIfInBounds_toArray, List.set_cons_zero, List.set_cons_succ]
                  refine wpAnyH_take (i := 5) (oi := { dst := some 176, op := Op.move (Operand.tmp 10), type := 3, pos := "law.go:97", after := #[], guard := none }) (v := ?vs5) rfl (by kernel_rfl) (by kernel_rfl) (by kernel_rfl) (fun _ _ _ h => h) (Or.inl ⟨by rfl, ?hys5⟩) hHeld ?_
                  case hys5 => (intro w hSw; (try dsimp only at hSw); go_simp; (try with_reducible rfl))
                  try simp only [Act.put, List.setIfInBounds_toArray, List.set_cons_zero, List.set_cons_succ]
                  refine wpAnyH_take (i := 6) (oi := { dst := some 177, op := Op.move (Operand.tmp 23), type := 3, pos := "law.go:97", after := #[], guard := none }) (v := ?vs6) rfl (by kernel_rfl) (by kernel_rfl) (by kernel_rfl) (fun _ _ _ h => h) (Or.inl ⟨by rfl, ?hys6⟩) hHeld ?_
                  case hys6 => (intro w hSw; (try dsimp only at hSw); go_simp; (try with_reducible rfl))
                  try simp only [Act.put, List.setIfInBounds_toArray, List.set_cons_zero, List.set_cons_succ]
                  refine wpAnyH_take (i := 7) (oi := { dst := some 178, op := Op.binOp BinOp.mul 3 (Operand.const (Value.int IntKind.i64 3)) (Operand.tmp 177) 3, type := 3, pos := "law.go:97", after := #[{ on := 6, ground := Ground.data }], guard := none }) (v := ?vs7) rfl (by kernel_rfl) (by kernel_rfl) (by kernel_rfl) (fun _ _ _ h => h) (Or.inl ⟨by rfl, ?hys7⟩) hHeld ?_
                  case hys7 => (intro w hSw; (try dsimp only at hSw); go_simp; (try with_reducible rfl))
                  try simp only [Act.put, List.setIfInBounds_toArray, List.set_cons_zero, List.set_cons_succ]
                  refine wpAnyH_take (i := 8) (oi := { dst := some 179, op := Op.binOp BinOp.add 3 (Operand.tmp 176) (Operand.tmp 178) 3, type := 3, pos := "law.go:97", after := #[{ on := 5, ground := Ground.data }, { on := 7, ground := Ground.data }], guard := none }) (v := ?vs8) rfl (by kernel_rfl) (by kernel_rfl) (by kernel_rfl) (fun _ _ _ h => h) (Or.inl ⟨by rfl, ?hys8⟩) hHeld ?_
                  case hys8 => (intro w hSw; (try dsimp only at hSw); go_simp; (try with_reducible rfl))
                  try simp only [Act.put, List.setIfInBounds_toArray, List.set_cons_zero, List.set_cons_succ]
                  refine wpAnyH_take (i := 9) (oi := { dst := some 180, op := Op.binOp BinOp.add 3 (Operand.tmp 179) (Operand.const (Value.int IntKind.i64 3)) 3, type := 3, pos := "law.go:97", after := #[{ on := 8, ground := Ground.data }], guard := none }) (v := ?vs9) rfl (by kernel_rfl) (by kernel_rfl) (by kernel_rfl) (fun _ _ _ h => h) (Or.inl ⟨by rfl, ?hys9⟩) hHeld ?_
                  case hys9 => (intro w hSw; (try dsimp only at hSw); go_simp; (try with_reducible rfl))
                  try simp only [Act.put, List.setIfInBounds_toArray, List.set_cons_zero, List.set_cons_succ]
                  refine wpAnyH_take (i := 10) (oi := { dst := some 181, op := Op.slice 24 (Operand.tmp 171) (some (Operand.tmp 175)) (some (Operand.tmp 180)) none, type := 24, pos := "law.go:97", after := #[{ on := 0, ground := Ground.data }, { on := 4, ground := Ground.data }, { on := 9, ground := Ground.data }], guard := none }) (v := ?vs10) rfl (by kernel_rfl) (by kernel_rfl) (by kernel_rfl) (fun _ _ _ h => h) (Or.inl ⟨by rfl, ?hys10⟩) hHeld ?_
                  case hys10 => (intro w hSw; (try dsimp only at hSw); go_simp; (try with_reducible rfl))
                  try simp only [Act.put, List.setIfInBounds_toArray, List.set_cons_zero, List.set_cons_succ]
                  refine wpAnyH_take (i := 11) (oi := { dst := some 182, op := Op.move (Operand.tmp 19), type := 24, pos := "law.go:97", after := #[], guard := none }) (v := ?vs11) rfl (by kernel_rfl) (by kernel_rfl) (by kernel_rfl) (fun _ _ _ h => h) (Or.inl ⟨by rfl, ?hys11⟩) hHeld ?_
                  case hys11 => (intro w hSw; (try dsimp only at hSw); go_simp; (try with_reducible rfl))
                  try simp only [Act.put, List.setIfInBounds_toArray, List.set_cons_zero, List.set_cons_succ]
                  refine wpAnyH_take (i := 12) (oi := { dst := some 183, op := Op.move (Operand.tmp 10), type := 3, pos := "law.go:97", after := #[], guard := none }) (v := ?vs12) rfl (by kernel_rfl) (by kernel_rfl) (by kernel_rfl) (fun _ _ _ h => h) (Or.inl ⟨by rfl, ?hys12⟩) hHeld ?_
                  case hys12 => (intro w hSw; (try dsimp only at hSw); go_simp; (try with_reducible rfl))
                  try simp only [Act.put, List.setIfInBounds_toArray, List.set_cons_zero, List.set_cons_succ]
                  refine wpAnyH_take (i := 13) (oi := { dst := some 184, op := Op.move (Operand.tmp 23), type := 3, pos := "law.go:97", after := #[], guard := none }) (v := ?vs13) rfl (by kernel_rfl) (by kernel_rfl) (by kernel_rfl) (fun _ _ _ h => h) (Or.inl ⟨by rfl, ?hys13⟩) hHeld ?_
                  case hys13 => (intro w hSw; (try dsimp only at hSw); go_simp; (try with_reducible rfl))
                  try simp only [Act.put, List.setIfInBounds_toArray, List.set_cons_zero, List.set_cons_succ]
                  refine wpAnyH_take (i := 14) (oi := { dst := some 185, op := Op.binOp BinOp.mul 3 (Operand.const (Value.int IntKind.i64 3)) (Operand.tmp 184) 3, type := 3, pos := "law.go:97", after := #[{ on := 13, ground := Ground.data }], guard := none }) (v := ?vs14) rfl (by kernel_rfl) (by kernel_rfl) (by kernel_rfl) (fun _ _ _ h => h) (Or.inl ⟨by rfl, ?hys14⟩) hHeld ?_
                  case hys14 => (intro w hSw; (try dsimp only at hSw); go_simp; (try with_reducible rfl))
                  try simp only [Act.put, List.setIfInBounds_toArray, List.set_cons_zero, List.set_cons_succ]
                  refine wpAnyH_take (i := 15) (oi := { dst := some 186, op := Op.binOp BinOp.add 3 (Operand.tmp 183) (Operand.tmp 185) 3, type := 3, pos := "law.go:97", after := #[{ on := 12, ground := Ground.data }, { on := 14, ground := Ground.data }], guard := none }) (v := ?vs15) rfl (by kernel_rfl) (by kernel_rfl) (by kernel_rfl) (fun _ _ _ h => h) (Or.inl ⟨by rfl, ?hys15⟩) hHeld ?_
                  case hys15 => (intro w hSw; (try dsimp only at hSw); go_simp; (try with_reducible rfl))
                  try simp only [Act.put, List.setIfInBounds_toArray, List.set_cons_zero, List.set_cons_succ]
                  refine wpAnyH_take (i := 16) (oi := { dst := some 187, op := Op.move (Operand.tmp 10), type := 3, pos := "law.go:97", after := #[], guard := none }) (v := ?vs16) rfl (by kernel_rfl) (by kernel_rfl) (by kernel_rfl) (fun _ _ _ h => h) (Or.inl ⟨by rfl, ?hys16⟩) hHeld ?_
                  case hys16 => (intro w hSw; (try dsimp only at hSw); go_simp; (try with_reducible rfl))
                  try simp only [Act.put, List.setIfInBounds_toArray, List.set_cons_zero, List.set_cons_succ]
                  refine wpAnyH_take (i := 17) (oi := { dst := some 188, op := Op.move (Operand.tmp 23), type := 3, pos := "law.go:97", after := #[], guard := none }) (v := ?vs17) rfl (by kernel_rfl) (by kernel_rfl) (by kernel_rfl) (fun _ _ _ h => h) (Or.inl ⟨by rfl, ?hys17⟩) hHeld ?_
                  case hys17 => (intro w hSw; (try dsimp only at hSw); go_simp; (try with_reducible rfl))
                  try simp only [Act.put, List.setIfInBounds_toArray, List.set_cons_zero, List.set_cons_succ]
                  refine wpAnyH_take (i := 18) (oi := { dst := some 189, op := Op.binOp BinOp.mul 3 (Operand.const (Value.int IntKind.i64 3)) (Operand.tmp 188) 3, type := 3, pos := "law.go:97", after := #[{ on := 17, ground := Ground.data }], guard := none }) (v := ?vs18) rfl (by kernel_rfl) (by kernel_rfl) (by kernel_rfl) (fun _ _ _ h => h) (Or.inl ⟨by rfl, ?hys18⟩) hHeld ?_
                  case hys18 => (intro w hSw; (try dsimp only at hSw); go_simp; (try with_reducible rfl))
                  try simp only [Act.put, List.setIfInBounds_toArray, List.set_cons_zero, List.set_cons_succ]
                  refine wpAnyH_take (i := 19) (oi := { dst := some 190, op := Op.binOp BinOp.add 3 (Operand.tmp 187) (Operand.tmp 189) 3, type := 3, pos := "law.go:97", after := #[{ on := 16, ground := Ground.data }, { on := 18, ground := Ground.data }], guard := none }) (v := ?vs19) rfl (by kernel_rfl) (by kernel_rfl) (by kernel_rfl) (fun _ _ _ h => h) (Or.inl ⟨by rfl, ?hys19⟩) hHeld ?_
                  case hys19 => (intro w hSw; (try dsimp only at hSw); go_simp; (try with_reducible rfl))
                  try simp only [Act.put, List.setIfInBounds_toArray, List.set_cons_zero, List.set_cons_succ]
                  refine wpAnyH_take (i := 20) (oi := { dst := some 191, op := Op.binOp BinOp.add 3 (Operand.tmp 190) (Operand.const (Value.int IntKind.i64 3)) 3, type := 3, pos := "law.go:97", after := #[{ on := 19, ground := Ground.data }], guard := none }) (v := ?vs20) rfl (by kernel_rfl) (by kernel_rfl) (by kernel_rfl) (fun _ _ _ h => h) (Or.inl ⟨by rfl, ?hys20⟩) hHeld ?_
                  case hys20 => (intro w hSw; (try dsimp only at hSw); go_simp; (try with_reducible rfl))
                  try simp only [Act.put, List.setIfInBounds_toArray, List.set_cons_zero, List.set_cons_succ]
                  refine wpAnyH_take (i := 21) (oi := { dst := some 192, op := Op.slice 24 (Operand.tmp 182) (some (Operand.tmp 186)) (some (Operand.tmp 191)) none, type := 24, pos := "law.go:97", after := #[{ on := 11, ground := Ground.data }, { on := 15, ground := Ground.data }, { on := 20, ground := Ground.data }], guard := none }) (v := ?vs21) rfl (by kernel_rfl) (by kernel_rfl) (by kernel_rfl) (fun _ _ _ h => h) (Or.inl ⟨by rfl, ?hys21⟩) hHeld ?_
                  case hys21 => (intro w hSw; (try dsimp only at hSw); go_simp; (try with_reducible rfl))
                  try simp only [Act.put, List.setIfInBounds_toArray, List.set_cons_zero, List.set_cons_succ]
                  refine wpAnyH_take (i := 22) (oi := { dst := some 24, op := Op.assign (Operand.tmp 181), type := 24, pos := "law.go:97", after := #[{ on := 10, ground := Ground.data }, { on := 0, ground := Ground.phase }, { on := 1, ground := Ground.phase }, { on := 2, ground := Ground.phase }, { on := 3, ground := Ground.phase }, { on := 4, ground := Ground.phase }, { on := 5, ground := Ground.phase }, { on := 6, ground := Ground.phase }, { on := 7, ground := Ground.phase }, { on := 8, ground := Ground.phase }, { on := 9, ground := Ground.phase }, { on := 10, ground := Ground.phase }, { on := 11, ground := Ground.textOnly Departure.lateStores }, { on := 12, ground := Ground.textOnly Departure.lateStores }, { on := 13, ground := Ground.textOnly Departure.lateStores }, { on := 14, ground := Ground.textOnly Departure.lateStores }, { on := 15, ground := Ground.textOnly Departure.lateStores }, { on := 16, ground := Ground.textOnly Departure.lateStores }, { on := 17, ground := Ground.textOnly Departure.lateStores }, { on := 18, ground := Ground.textOnly Departure.lateStores }, { on := 19, ground := Ground.textOnly Departure.lateStores }, { on := 20, ground := Ground.textOnly Departure.lateStores }, { on := 21, ground := Ground.textOnly Departure.lateStoresUnsure }], guard := none }) (v := ?vs22) rfl (by kernel_rfl) (by kernel_rfl) (by kernel_rfl) (fun _ _ _ h => h) (Or.inl ⟨by rfl, ?hys22⟩) hHeld ?_
                  case hys22 => (intro w hSw; (try dsimp only at hSw); go_simp; (try with_reducible rfl))
                  try simp only [Act.put, List.setIfInBounds_toArray, List.set_cons_zero, List.set_cons_succ]
                  refine wpAnyH_take (i := 23) (oi := { dst := some 25, op := Op.assign (Operand.tmp 192), type := 24, pos := "law.go:97", after := #[{ on := 21, ground := Ground.data }, { on := 22, ground := Ground.chain }, { on := 0, ground := Ground.phase }, { on := 1, ground := Ground.phase }, { on := 2, ground := Ground.phase }, { on := 3, ground := Ground.phase }, { on := 4, ground := Ground.phase }, { on := 5, ground := Ground.phase }, { on := 6, ground := Ground.phase }, { on := 7, ground := Ground.phase }, { on := 8, ground := Ground.phase }, { on := 9, ground := Ground.phase }, { on := 10, ground := Ground.phase }, { on := 11, ground := Ground.phase }, { on := 12, ground := Ground.phase }, { on := 13, ground := Ground.phase }, { on := 14, ground := Ground.phase }, { on := 15, ground := Ground.phase }, { on := 16, ground := Ground.phase }, { on := 17, ground := Ground.phase }, { on := 18, ground := Ground.phase }, { on := 19, ground := Ground.phase }, { on := 20, ground := Ground.phase }, { on := 21, ground := Ground.phase }, { on := 22, ground := Ground.phase }], guard := none }) (v := ?vs23) rfl (by kernel_rfl) (by kernel_rfl) (by kernel_rfl) (fun _ _ _ h => h) (Or.inl ⟨by rfl, ?hys23⟩) hHeld ?_
                  case hys23 => (intro w hSw; (try dsimp only at hSw); go_simp; (try with_reducible rfl))
                  try simp only [Act.put, List.setIfInBounds_toArray, List.set_cons_zero, List.set_cons_succ]
                  refine wpAnyH_done (by kernel_rfl) ?_ _
                  clear w1 w2 w3 l0 l1 l2 l3 l4 l5 l6 hHeld x0 x1 x2 x3
                  obtain ⟨pc, pa, pd⟩ := part_at HK.out (i := i) (by dsimp only; omega)
                  dsimp only at pc pa pd
                  rw [HBs.out] at pc pa pd
                  have qa : carI ⟨n, N, b, c, d⟩ i = lo := by omega
                  have qd : cdrI ⟨n, N, b, c, d⟩ i = lo + 1 := by omega
                  have qc : colI ⟨n, N, b, c, d⟩ i = lo + 2 := by omega
                  obtain ⟨cW, cB, cD, cL⟩ := HCe.out i (by omega)
                  rw [qa, qc] at cW cB cD
                  rw [qc, qd] at cL
                  have HF0 : Hid (wr.drew.cell? ⟨bz, off + lo, none⟩ = some (.int .u64 (f lo)) ∧ wr.drew.cell? ⟨bz, off + lo + 1, none⟩ = some (.int .u64 (f (lo + 1))) ∧ wr.drew.cell? ⟨bz, off + lo + 2, none⟩ = some (.int .u64 (f (lo + 2))) ∧ wr.drew.cell? ⟨Z, lo, none⟩ = some (.int .u64 (f' lo)) ∧ wr.drew.cell? ⟨Z, lo + 1, none⟩ = some (.int .u64 (f' (lo + 1))) ∧ wr.drew.cell? ⟨Z, lo + 2, none⟩ = some (.int .u64 (f' (lo + 2))) ∧ wr.drew.cell? ⟨g, k - 1, none⟩ = some (.int .i64 (t : Int))) := Lib.hid (by
                    have e1 : ∀ j, j < n → wr.drew.cell? ⟨bz, off + j, none⟩ = some (.int .u64 (f j)) := fun j hj => by
                      obtain ⟨b', off', e, h⟩ := HZ.out.was.at' (k := j) (by dsimp only; omega)
                      obtain ⟨rfl, rfl⟩ : bz = b' ∧ off = off' := by simpa using e
                      exact h
                    have e2 : ∀ j, j < n → wr.drew.cell? ⟨Z, j, none⟩ = some (.int .u64 (f' j)) := fun j hj => HZ.out.now.cell (j := j) (by dsimp only; omega)
                    refine ⟨e1 lo (by omega), e1 (lo + 1) (by omega), e1 (lo + 2) (by omega), e2 lo (by omega), e2 (lo + 1) (by omega), e2 (lo + 2) (by omega), ?_⟩
                    obtain ⟨b', off', e, h⟩ := HI.out.at' (j := k - 1) (by rw [HLl.out]; omega)
                    obtain ⟨rfl, rfl⟩ : g = b' ∧ 0 = off' := by simpa using e
                    rw [Nat.zero_add] at h
                    rw [show wr.drew.cell? ⟨g, k - 1, none⟩ = _ from h]
                    have := HTl.out
                    rw [List.getLast?_eq_getElem?, HLl.out] at this
                    rw [List.getD_eq_getElem?_getD, this]; rfl)
                  have hiT : (L.getLast? ≠ some i) ↔ i ≠ t := by rw [HTl.out]; simp [eq_comm]
                  rw [hiT] at cL
                  have HZ3 := Lib.hid HZ.out.drew; have HI3 := Lib.hid HI.out.drew
                  clear HZ HI pc pa pd qa qd qc hiT
                  generalize wr.drew = wd at *
                  have hkw : IntKind.i64.wrap ((k : Int) - 1) = ((k - 1 : Nat) : Int) := by rw [IntWalk.i64_in _ (by omega)]; omega
                  have hkz : (0 : Int) ≤ ((k - 1 : Nat) : Int) := by omega
                  have hkl : ((k - 1 : Nat) : Int) < (k : Int) := by omega
                  generalize f lo = ca at *
                  generalize f (lo + 1) = cd at *
                  generalize f (lo + 2) = co at *
                  generalize f' lo = da at *
                  generalize f' (lo + 1) = dd at *
                  generalize f' (lo + 2) = dc at *
                  by_cases h0 : co = 0
                  · obtain ⟨r1, r2⟩ := cW h0
                    subst h0 r1 r2
                    clear cW cB cD cL
                    obtain ⟨wa, wb, wc, za, zb, zc, cl⟩ := HF0.out
                    go_wp2_with fail
                    refine wp_region_held_drew (S := (fun w' => w'.cell? ⟨bz, off + lo, none⟩ = some (.int .u64 ca) ∧ w'.cell? ⟨bz, off + lo + 1, none⟩ = some (.int .u64 cd) ∧ w'.cell? ⟨bz, off + lo + 2, none⟩ = some (.int .u64 0) ∧ w'.cell? ⟨Z, lo, none⟩ = some (.int .u64 0) ∧ w'.cell? ⟨Z, lo + 1, none⟩ = some (.int .u64 dd) ∧ w'.cell? ⟨Z, lo + 2, none⟩ = some (.int .u64 0) ∧ w'.cell? ⟨g, k - 1, none⟩ = some (.int .i64 (t : Int)))) (by kernel_rfl) ?_ (fun hHeld => ?_)
                    · exact ⟨wa, wb, wc, za, zb, zc, cl⟩
                    refine wpAnyH_take (i := 0) (oi := { dst := some 239, op := Op.move (Operand.tmp 24), type := 24, pos := "law.go:112", after := #[], guard := none }) (v := ?vr47x10) rfl (by kernel_rfl) (by kernel_rfl) (by kernel_rfl) (fun _ _ _ h => h) (Or.inl ⟨by rfl, ?hyr47x10⟩) hHeld ?_
                    case hyr47x10 => (intro w hSw; (try dsimp only at hSw); go_simp; (try with_reducible rfl))
                    try simp only [Act.put, List.setIfInBounds_toArray, List.set_cons_zero, List.set_cons_succ]
                    refine wpAnyH_take (i := 1) (oi := { dst := some 240, op := Op.indexAddr 24 (Operand.tmp 239) (Operand.const (Value.int IntKind.i64 2)), type := 0, pos := "law.go:112", after := #[{ on := 0, ground := Ground.data }], guard := none }) (v := ?vr47x11) rfl (by kernel_rfl) (by kernel_rfl) (by kernel_rfl) (fun _ _ _ h => h) (Or.inl ⟨by rfl, ?hyr47x11⟩) hHeld ?_
                    case hyr47x11 => (intro w hSw; (try dsimp only at hSw); go_simp; (try with_reducible rfl))
                    try simp only [Act.put, List.setIfInBounds_toArray, List.set_cons_zero, List.set_cons_succ]
                    refine wpAnyH_take (i := 2) (oi := { dst := some 241, op := Op.load 26 (Operand.tmp 240), type := 26, pos := "law.go:112", after := #[{ on := 1, ground := Ground.data }], guard := none }) (v := ?vr47x12) rfl (by kernel_rfl) (by kernel_rfl) (by kernel_rfl) (fun _ _ _ h => h) (Or.inl ⟨by rfl, ?hyr47x12⟩) hHeld ?_
                    case hyr47x12 => (intro w hSw; (try dsimp only at hSw); go_simp; (try with_reducible rfl))
                    try simp only [Act.put, List.setIfInBounds_toArray, List.set_cons_zero, List.set_cons_succ]
                    refine wpAnyH_take (i := 3) (oi := { dst := some 242, op := Op.binOp BinOp.neq 26 (Operand.tmp 241) (Operand.const (Value.int IntKind.u64 0)) 26, type := 4, pos := "law.go:112", after := #[{ on := 2, ground := Ground.data }], guard := none }) (v := ?vr47x13) rfl (by kernel_rfl) (by kernel_rfl) (by kernel_rfl) (fun _ _ _ h => h) (Or.inl ⟨by rfl, ?hyr47x13⟩) hHeld ?_
                    case hyr47x13 => (intro w hSw; (try dsimp only at hSw); go_simp; (try with_reducible rfl))
                    try simp only [Act.put, List.setIfInBounds_toArray, List.set_cons_zero, List.set_cons_succ]
                    refine wpAnyH_take (i := 4) (oi := { dst := some 243, op := Op.move (Operand.tmp 242), type := 4, pos := "law.go:112", after := #[{ on := 3, ground := Ground.data }], guard := none }) (v := ?vr47x14) rfl (by kernel_rfl) (by kernel_rfl) (by kernel_rfl) (fun _ _ _ h => h) (Or.inl ⟨by rfl, ?hyr47x14⟩) hHeld ?_
                    case hyr47x14 => (intro w hSw; (try dsimp only at hSw); go_simp; (try with_reducible rfl))
                    try simp only [Act.put, List.setIfInBounds_toArray, List.set_cons_zero, List.set_cons_succ]
                    refine wpAnyH_take (i := 5) (oi := { dst := some 244, op := Op.move (Operand.tmp 23), type := 3, pos := "law.go:112", after := #[{ on := 4, ground := Ground.guard }], guard := some (4, true) }) (v := undef) rfl (by kernel_rfl) (by kernel_rfl) (by kernel_rfl) (fun _ _ _ h => h) (Or.inr ⟨by rfl, rfl⟩) hHeld ?_
                    try simp only [Act.put, List.setIfInBounds_toArray, List.set_cons_zero, List.set_cons_succ]
                    refine wpAnyH_take (i := 6) (oi := { dst := some 245, op := Op.move (Operand.tmp 8), type := 41, pos := "law.go:112", after := #[{ on := 4, ground := Ground.guard }], guard := some (4, true) }) (v := undef) rfl (by kernel_rfl) (by kernel_rfl) (by kernel_rfl) (fun _ _ _ h => h) (Or.inr ⟨by rfl, rfl⟩) hHeld ?_
                    try simp only [Act.put, List.setIfInBounds_toArray, List.set_cons_zero, List.set_cons_succ]
                    refine wpAnyH_take (i := 7) (oi := { dst := some 246, op := Op.move (Operand.tmp 8), type := 41, pos := "law.go:112", after := #[{ on := 4, ground := Ground.guard }], guard := some (4, true) }) (v := undef) rfl (by kernel_rfl) (by kernel_rfl) (by kernel_rfl) (fun _ _ _ h => h) (Or.inr ⟨by rfl, rfl⟩) hHeld ?_
                    try simp only [Act.put, List.setIfInBounds_toArray, List.set_cons_zero, List.set_cons_succ]
                    refine wpAnyH_take (i := 8) (oi := { dst := some 247, op := Op.call { callee := Callee.builtin Builtin.len, args := #[Operand.tmp 246], argTypes := #[41] }, type := 3, pos := "law.go:112", after := #[{ on := 7, ground := Ground.data }, { on := 4, ground := Ground.guard }], guard := some (4, true) }) (v := undef) rfl (by kernel_rfl) (by kernel_rfl) (by kernel_rfl) (fun _ _ _ h => h) (Or.inr ⟨by rfl, rfl⟩) hHeld ?_
                    try simp only [Act.put, List.setIfInBounds_toArray, List.set_cons_zero, List.set_cons_succ]
                    refine wpAnyH_take (i := 9) (oi := { dst := some 248, op := Op.binOp BinOp.sub 3 (Operand.tmp 247) (Operand.const (Value.int IntKind.i64 1)) 3, type := 3, pos := "law.go:112", after := #[{ on := 8, ground := Ground.data }, { on := 4, ground := Ground.guard }], guard := some (4, true) }) (v := undef) rfl (by kernel_rfl) (by kernel_rfl) (by kernel_rfl) (fun _ _ _ h => h) (Or.inr ⟨by rfl, rfl⟩) hHeld ?_
                    try simp only [Act.put, List.setIfInBounds_toArray, List.set_cons_zero, List.set_cons_succ]
                    refine wpAnyH_take (i := 10) (oi := { dst := some 249, op := Op.indexAddr 41 (Operand.tmp 245) (Operand.tmp 248), type := 0, pos := "law.go:112", after := #[{ on := 6, ground := Ground.data }, { on := 9, ground := Ground.data }, { on := 4, ground := Ground.guard }], guard := some (4, true) }) (v := undef) rfl (by kernel_rfl) (by kernel_rfl) (by kernel_rfl) (fun _ _ _ h => h) (Or.inr ⟨by rfl, rfl⟩) hHeld ?_
                    try simp only [Act.put, List.setIfInBounds_toArray, List.set_cons_zero, List.set_cons_succ]
                    refine wpAnyH_take (i := 11) (oi := { dst := some 250, op := Op.load 3 (Operand.tmp 249), type := 3, pos := "law.go:112", after := #[{ on := 10, ground := Ground.data }, { on := 4, ground := Ground.guard }], guard := some (4, true) }) (v := undef) rfl (by kernel_rfl) (by kernel_rfl) (by kernel_rfl) (fun _ _ _ h => h) (Or.inr ⟨by rfl, rfl⟩) hHeld ?_
                    try simp only [Act.put, List.setIfInBounds_toArray, List.set_cons_zero, List.set_cons_succ]
                    refine wpAnyH_take (i := 12) (oi := { dst := some 251, op := Op.binOp BinOp.neq 3 (Operand.tmp 244) (Operand.tmp 250) 3, type := 4, pos := "law.go:112", after := #[{ on := 5, ground := Ground.data }, { on := 11, ground := Ground.data }, { on := 4, ground := Ground.guard }], guard := some (4, true) }) (v := undef) rfl (by kernel_rfl) (by kernel_rfl) (by kernel_rfl) (fun _ _ _ h => h) (Or.inr ⟨by rfl, rfl⟩) hHeld ?_
                    try simp only [Act.put, List.setIfInBounds_toArray, List.set_cons_zero, List.set_cons_succ]
                    refine wpAnyH_take (i := 13) (oi := { dst := some 252, op := Op.pick (Operand.tmp 243) (Operand.tmp 251) (Operand.const (Value.bool false)), type := 4, pos := "law.go:112", after := #[{ on := 4, ground := Ground.data }, { on := 12, ground := Ground.data }], guard := none }) (v := ?vr47x113) rfl (by kernel_rfl) (by kernel_rfl) (by kernel_rfl) (fun _ _ _ h => h) (Or.inl ⟨by rfl, ?hyr47x113⟩) hHeld ?_
                    case hyr47x113 => (intro w hSw; (try dsimp only at hSw); go_simp; (try with_reducible rfl))
                    try simp only [Act.put, List.setIfInBounds_toArray, List.set_cons_zero, List.set_cons_succ]
                    refine wpAnyH_take (i := 14) (oi := { dst := some 253, op := Op.move (Operand.tmp 252), type := 4, pos := "law.go:112", after := #[{ on := 13, ground := Ground.data }, { on := 4, ground := Ground.chain }], guard := none }) (v := ?vr47x114) rfl (by kernel_rfl) (by kernel_rfl) (by kernel_rfl) (fun _ _ _ h => h) (Or.inl ⟨by rfl, ?hyr47x114⟩) hHeld ?_
                    case hyr47x114 => (intro w hSw; (try dsimp only at hSw); go_simp; (try with_reducible rfl))
                    try simp only [Act.put, List.setIfInBounds_toArray, List.set_cons_zero, List.set_cons_succ]
                    refine wpAnyH_take (i := 15) (oi := { dst := some 254, op := Op.move (Operand.tmp 25), type := 24, pos := "law.go:112", after := #[{ on := 14, ground := Ground.guard }], guard := some (14, true) }) (v := undef) rfl (by kernel_rfl) (by kernel_rfl) (by kernel_rfl) (fun _ _ _ h => h) (Or.inr ⟨by rfl, rfl⟩) hHeld ?_
                    try simp only [Act.put, List.setIfInBounds_toArray, List.set_cons_zero, List.set_cons_succ]
                    refine wpAnyH_take (i := 16) (oi := { dst := some 255, op := Op.indexAddr 24 (Operand.tmp 254) (Operand.const (Value.int IntKind.i64 1)), type := 0, pos := "law.go:112", after := #[{ on := 15, ground := Ground.data }, { on := 14, ground := Ground.guard }], guard := some (14, true) }) (v := undef) rfl (by kernel_rfl) (by kernel_rfl) (by kernel_rfl) (fun _ _ _ h => h) (Or.inr ⟨by rfl, rfl⟩) hHeld ?_
                    try simp only [Act.put, List.setIfInBounds_toArray, List.set_cons_zero, List.set_cons_succ]
                    refine wpAnyH_take (i := 17) (oi := { dst := some 256, op := Op.load 26 (Operand.tmp 255), type := 26, pos := "law.go:112", after := #[{ on := 16, ground := Ground.data }, { on := 14, ground := Ground.guard }], guard := some (14, true) }) (v := undef) rfl (by kernel_rfl) (by kernel_rfl) (by kernel_rfl) (fun _ _ _ h => h) (Or.inr ⟨by rfl, rfl⟩) hHeld ?_
                    try simp only [Act.put, List.setIfInBounds_toArray, List.set_cons_zero, List.set_cons_succ]
                    refine wpAnyH_take (i := 18) (oi := { dst := some 257, op := Op.move (Operand.tmp 24), type := 24, pos := "law.go:112", after := #[{ on := 14, ground := Ground.guard }], guard := some (14, true) }) (v := undef) rfl (by kernel_rfl) (by kernel_rfl) (by kernel_rfl) (fun _ _ _ h => h) (Or.inr ⟨by rfl, rfl⟩) hHeld ?_
                    try simp only [Act.put, List.setIfInBounds_toArray, List.set_cons_zero, List.set_cons_succ]
                    refine wpAnyH_take (i := 19) (oi := { dst := some 258, op := Op.indexAddr 24 (Operand.tmp 257) (Operand.const (Value.int IntKind.i64 1)), type := 0, pos := "law.go:112", after := #[{ on := 18, ground := Ground.data }, { on := 14, ground := Ground.guard }], guard := some (14, true) }) (v := undef) rfl (by kernel_rfl) (by kernel_rfl) (by kernel_rfl) (fun _ _ _ h => h) (Or.inr ⟨by rfl, rfl⟩) hHeld ?_
                    try simp only [Act.put, List.setIfInBounds_toArray, List.set_cons_zero, List.set_cons_succ]
                    refine wpAnyH_take (i := 20) (oi := { dst := some 259, op := Op.load 26 (Operand.tmp 258), type := 26, pos := "law.go:112", after := #[{ on := 19, ground := Ground.data }, { on := 14, ground := Ground.guard }], guard := some (14, true) }) (v := undef) rfl (by kernel_rfl) (by kernel_rfl) (by kernel_rfl) (fun _ _ _ h => h) (Or.inr ⟨by rfl, rfl⟩) hHeld ?_
                    try simp only [Act.put, List.setIfInBounds_toArray, List.set_cons_zero, List.set_cons_succ]
                    refine wpAnyH_take (i := 21) (oi := { dst := some 260, op := Op.binOp BinOp.neq 26 (Operand.tmp 256) (Operand.tmp 259) 26, type := 4, pos := "law.go:112", after := #[{ on := 17, ground := Ground.data }, { on := 20, ground := Ground.data }, { on := 14, ground := Ground.guard }], guard := some (14, true) }) (v := undef) rfl (by kernel_rfl) (by kernel_rfl) (by kernel_rfl) (fun _ _ _ h => h) (Or.inr ⟨by rfl, rfl⟩) hHeld ?_
                    try simp only [Act.put, List.setIfInBounds_toArray, List.set_cons_zero, List.set_cons_succ]
                    refine wpAnyH_take (i := 22) (oi := { dst := some 261, op := Op.pick (Operand.tmp 253) (Operand.tmp 260) (Operand.const (Value.bool false)), type := 4, pos := "law.go:112", after := #[{ on := 14, ground := Ground.data }, { on := 21, ground := Ground.data }], guard := none }) (v := ?vr47x122) rfl (by kernel_rfl) (by kernel_rfl) (by kernel_rfl) (fun _ _ _ h => h) (Or.inl ⟨by rfl, ?hyr47x122⟩) hHeld ?_
                    case hyr47x122 => (intro w hSw; (try dsimp only at hSw); go_simp; (try with_reducible rfl))
                    try simp only [Act.put, List.setIfInBounds_toArray, List.set_cons_zero, List.set_cons_succ]
                    refine wpAnyH_done (by kernel_rfl) ?_ _
                    clear hHeld wa wb wc za zb zc cl
                    have HF1 : Hid (wd.drew.cell? ⟨bz, off + lo, none⟩ = some (.int .u64 ca) ∧ wd.drew.cell? ⟨bz, off + lo + 1, none⟩ = some (.int .u64 cd) ∧ wd.drew.cell? ⟨bz, off + lo + 2, none⟩ = some (.int .u64 0) ∧ wd.drew.cell? ⟨Z, lo, none⟩ = some (.int .u64 0) ∧ wd.drew.cell? ⟨Z, lo + 1, none⟩ = some (.int .u64 dd) ∧ wd.drew.cell? ⟨Z, lo + 2, none⟩ = some (.int .u64 0) ∧ wd.drew.cell? ⟨g, k - 1, none⟩ = some (.int .i64 (t : Int))) := Lib.hid HF0.out
                    have HZ4 := Lib.hid HZ3.out.drew; have HI4 := Lib.hid HI3.out.drew
                    clear HZ3 HI3 HF0
                    have HZ3 := HZ4; have HI3 := HI4
                    clear HZ4 HI4
                    generalize wd.drew = wd1 at *
                    clear HF1
                    go_wp2_with fail
                    go_roundw
                    case rel => exact ⟨i + 1, by go_num, by omega, HZ3, HI3⟩
                    case measure => simp [intOf]; omega
                  by_cases h2 : co = 2
                  · obtain ⟨r1, r2⟩ := cB h2
                    subst h2 r1 r2
                    clear cW cB cD h0
                    by_cases hit : i = t
                    · subst hit
                      have ne1 : ((i : Int) != (i : Int)) = false := by simp
                      clear cL
                      obtain ⟨wa, wb, wc, za, zb, zc, cl⟩ := HF0.out
                      go_wp2_with fail
                      refine wp_region_held_drew (S := (fun w' => w'.cell? ⟨bz, off + lo, none⟩ = some (.int .u64 da) ∧ w'.cell? ⟨bz, off + lo + 1, none⟩ = some (.int .u64 cd) ∧ w'.cell? ⟨bz, off + lo + 2, none⟩ = some (.int .u64 2) ∧ w'.cell? ⟨Z, lo, none⟩ = some (.int .u64 da) ∧ w'.cell? ⟨Z, lo + 1, none⟩ = some (.int .u64 dd) ∧ w'.cell? ⟨Z, lo + 2, none⟩ = some (.int .u64 0) ∧ w'.cell? ⟨g, k - 1, none⟩ = some (.int .i64 (i : Int)))) (by kernel_rfl) ?_ (fun hHeld => ?_)
                      · exact ⟨wa, wb, wc, za, zb, zc, cl⟩
                      refine wpAnyH_take (i := 0) (oi := { dst := some 226, op := Op.move (Operand.tmp 25), type := 24, pos := "law.go:104", after := #[], guard := none }) (v := ?vr45x20) rfl (by kernel_rfl) (by kernel_rfl) (by kernel_rfl) (fun _ _ _ h => h) (Or.inl ⟨by rfl, ?hyr45x20⟩) hHeld ?_
                      case hyr45x20 => (intro w hSw; (try dsimp only at hSw); go_simp; (try with_reducible rfl))
                      try simp only [Act.put, List.setIfInBounds_toArray, List.set_cons_zero, List.set_cons_succ]
                      refine wpAnyH_take (i := 1) (oi := { dst := some 227, op := Op.indexAddr 24 (Operand.tmp 226) (Operand.const (Value.int IntKind.i64 0)), type := 0, pos := "law.go:104", after := #[{ on := 0, ground := Ground.data }], guard := none }) (v := ?vr45x21) rfl (by kernel_rfl) (by kernel_rfl) (by kernel_rfl) (fun _ _ _ h => h) (Or.inl ⟨by rfl, ?hyr45x21⟩) hHeld ?_
                      case hyr45x21 => (intro w hSw; (try dsimp only at hSw); go_simp; (try with_reducible rfl))
                      try simp only [Act.put, List.setIfInBounds_toArray, List.set_cons_zero, List.set_cons_succ]
                      refine wpAnyH_take (i := 2) (oi := { dst := some 228, op := Op.load 26 (Operand.tmp 227), type := 26, pos := "law.go:104", after := #[{ on := 1, ground := Ground.data }], guard := none }) (v := ?vr45x22) rfl (by kernel_rfl) (by kernel_rfl) (by kernel_rfl) (fun _ _ _ h => h) (Or.inl ⟨by rfl, ?hyr45x22⟩) hHeld ?_
                      case hyr45x22 => (intro w hSw; (try dsimp only at hSw); go_simp; (try with_reducible rfl))
                      try simp only [Act.put, List.setIfInBounds_toArray, List.set_cons_zero, List.set_cons_succ]
                      refine wpAnyH_take (i := 3) (oi := { dst := some 229, op := Op.move (Operand.tmp 24), type := 24, pos := "law.go:104", after := #[], guard := none }) (v := ?vr45x23) rfl (by kernel_rfl) (by kernel_rfl) (by kernel_rfl) (fun _ _ _ h => h) (Or.inl ⟨by rfl, ?hyr45x23⟩) hHeld ?_
                      case hyr45x23 => (intro w hSw; (try dsimp only at hSw); go_simp; (try with_reducible rfl))
                      try simp only [Act.put, List.setIfInBounds_toArray, List.set_cons_zero, List.set_cons_succ]
                      refine wpAnyH_take (i := 4) (oi := { dst := some 230, op := Op.indexAddr 24 (Operand.tmp 229) (Operand.const (Value.int IntKind.i64 0)), type := 0, pos := "law.go:104", after := #[{ on := 3, ground := Ground.data }], guard := none }) (v := ?vr45x24) rfl (by kernel_rfl) (by kernel_rfl) (by kernel_rfl) (fun _ _ _ h => h) (Or.inl ⟨by rfl, ?hyr45x24⟩) hHeld ?_
                      case hyr45x24 => (intro w hSw; (try dsimp only at hSw); go_simp; (try with_reducible rfl))
                      try simp only [Act.put, List.setIfInBounds_toArray, List.set_cons_zero, List.set_cons_succ]
                      refine wpAnyH_take (i := 5) (oi := { dst := some 231, op := Op.load 26 (Operand.tmp 230), type := 26, pos := "law.go:104", after := #[{ on := 4, ground := Ground.data }], guard := none }) (v := ?vr45x25) rfl (by kernel_rfl) (by kernel_rfl) (by kernel_rfl) (fun _ _ _ h => h) (Or.inl ⟨by rfl, ?hyr45x25⟩) hHeld ?_
                      case hyr45x25 => (intro w hSw; (try dsimp only at hSw); go_simp; (try with_reducible rfl))
                      try simp only [Act.put, List.setIfInBounds_toArray, List.set_cons_zero, List.set_cons_succ]
                      refine wpAnyH_take (i := 6) (oi := { dst := some 232, op := Op.binOp BinOp.neq 26 (Operand.tmp 228) (Operand.tmp 231) 26, type := 4, pos := "law.go:104", after := #[{ on := 2, ground := Ground.data }, { on := 5, ground := Ground.data }], guard := none }) (v := ?vr45x26) rfl (by kernel_rfl) (by kernel_rfl) (by kernel_rfl) (fun _ _ _ h => h) (Or.inl ⟨by rfl, ?hyr45x26⟩) hHeld ?_
                      case hyr45x26 => (intro w hSw; (try dsimp only at hSw); go_simp; (try with_reducible rfl))
                      try simp only [Act.put, List.setIfInBounds_toArray, List.set_cons_zero, List.set_cons_succ]
                      refine wpAnyH_take (i := 7) (oi := { dst := some 233, op := Op.move (Operand.tmp 232), type := 4, pos := "law.go:104", after := #[{ on := 6, ground := Ground.data }], guard := none }) (v := ?vr45x27) rfl (by kernel_rfl) (by kernel_rfl) (by kernel_rfl) (fun _ _ _ h => h) (Or.inl ⟨by rfl, ?hyr45x27⟩) hHeld ?_
                      case hyr45x27 => (intro w hSw; (try dsimp only at hSw); go_simp; (try with_reducible rfl))
                      try simp only [Act.put, List.setIfInBounds_toArray, List.set_cons_zero, List.set_cons_succ]
                      refine wpAnyH_take (i := 8) (oi := { dst := some 234, op := Op.move (Operand.tmp 25), type := 24, pos := "law.go:104", after := #[{ on := 7, ground := Ground.guard }], guard := some (7, false) }) (v := ?vr45x28) rfl (by kernel_rfl) (by kernel_rfl) (by kernel_rfl) (fun _ _ _ h => h) (Or.inl ⟨by rfl, ?hyr45x28⟩) hHeld ?_
                      case hyr45x28 => (intro w hSw; (try dsimp only at hSw); go_simp; (try with_reducible rfl))
                      try simp only [Act.put, List.setIfInBounds_toArray, List.set_cons_zero, List.set_cons_succ]
                      refine wpAnyH_take (i := 9) (oi := { dst := some 235, op := Op.indexAddr 24 (Operand.tmp 234) (Operand.const (Value.int IntKind.i64 2)), type := 0, pos := "law.go:104", after := #[{ on := 8, ground := Ground.data }, { on := 7, ground := Ground.guard }], guard := some (7, false) }) (v := ?vr45x29) rfl (by kernel_rfl) (by kernel_rfl) (by kernel_rfl) (fun _ _ _ h => h) (Or.inl ⟨by rfl, ?hyr45x29⟩) hHeld ?_
                      case hyr45x29 => (intro w hSw; (try dsimp only at hSw); go_simp; (try with_reducible rfl))
                      try simp only [Act.put, List.setIfInBounds_toArray, List.set_cons_zero, List.set_cons_succ]
                      refine wpAnyH_take (i := 10) (oi := { dst := some 236, op := Op.load 26 (Operand.tmp 235), type := 26, pos := "law.go:104", after := #[{ on := 9, ground := Ground.data }, { on := 7, ground := Ground.guard }], guard := some (7, false) }) (v := ?vr45x210) rfl (by kernel_rfl) (by kernel_rfl) (by kernel_rfl) (fun _ _ _ h => h) (Or.inl ⟨by rfl, ?hyr45x210⟩) hHeld ?_
                      case hyr45x210 => (intro w hSw; (try dsimp only at hSw); go_simp; (try with_reducible rfl))
                      try simp only [Act.put, List.setIfInBounds_toArray, List.set_cons_zero, List.set_cons_succ]
                      refine wpAnyH_take (i := 11) (oi := { dst := some 237, op := Op.binOp BinOp.neq 26 (Operand.tmp 236) (Operand.const (Value.int IntKind.u64 0)) 26, type := 4, pos := "law.go:104", after := #[{ on := 10, ground := Ground.data }, { on := 7, ground := Ground.guard }], guard := some (7, false) }) (v := ?vr45x211) rfl (by kernel_rfl) (by kernel_rfl) (by kernel_rfl) (fun _ _ _ h => h) (Or.inl ⟨by rfl, ?hyr45x211⟩) hHeld ?_
                      case hyr45x211 => (intro w hSw; (try dsimp only at hSw); go_simp; (try with_reducible rfl))
                      try simp only [Act.put, List.setIfInBounds_toArray, List.set_cons_zero, List.set_cons_succ]
                      refine wpAnyH_take (i := 12) (oi := { dst := some 238, op := Op.pick (Operand.tmp 233) (Operand.const (Value.bool true)) (Operand.tmp 237), type := 4, pos := "law.go:104", after := #[{ on := 7, ground := Ground.data }, { on := 11, ground := Ground.data }], guard := none }) (v := ?vr45x212) rfl (by kernel_rfl) (by kernel_rfl) (by kernel_rfl) (fun _ _ _ h => h) (Or.inl ⟨by rfl, ?hyr45x212⟩) hHeld ?_
                      case hyr45x212 => (intro w hSw; (try dsimp only at hSw); go_simp; (try with_reducible rfl))
                      try simp only [Act.put, List.setIfInBounds_toArray, List.set_cons_zero, List.set_cons_succ]
                      refine wpAnyH_done (by kernel_rfl) ?_ _
                      clear hHeld wa wb wc za zb zc cl
                      have HF1 : Hid (wd.drew.cell? ⟨bz, off + lo, none⟩ = some (.int .u64 da) ∧ wd.drew.cell? ⟨bz, off + lo + 1, none⟩ = some (.int .u64 cd) ∧ wd.drew.cell? ⟨bz, off + lo + 2, none⟩ = some (.int .u64 2) ∧ wd.drew.cell? ⟨Z, lo, none⟩ = some (.int .u64 da) ∧ wd.drew.cell? ⟨Z, lo + 1, none⟩ = some (.int .u64 dd) ∧ wd.drew.cell? ⟨Z, lo + 2, none⟩ = some (.int .u64 0) ∧ wd.drew.cell? ⟨g, k - 1, none⟩ = some (.int .i64 (i : Int))) := Lib.hid HF0.out
                      have HZ4 := Lib.hid HZ3.out.drew; have HI4 := Lib.hid HI3.out.drew
                      clear HZ3 HI3 HF0
                      have HZ3 := HZ4; have HI3 := HI4
                      clear HZ4 HI4
                      generalize wd.drew = wd1 at *
                      obtain ⟨wa, wb, wc, za, zb, zc, cl⟩ := HF1.out
                      go_wp2_with fail
                      refine wp_region_held_drew (S := (fun w' => w'.cell? ⟨bz, off + lo, none⟩ = some (.int .u64 da) ∧ w'.cell? ⟨bz, off + lo + 1, none⟩ = some (.int .u64 cd) ∧ w'.cell? ⟨bz, off + lo + 2, none⟩ = some (.int .u64 2) ∧ w'.cell? ⟨Z, lo, none⟩ = some (.int .u64 da) ∧ w'.cell? ⟨Z, lo + 1, none⟩ = some (.int .u64 dd) ∧ w'.cell? ⟨Z, lo + 2, none⟩ = some (.int .u64 0) ∧ w'.cell? ⟨g, k - 1, none⟩ = some (.int .i64 (i : Int)))) (by kernel_rfl) ?_ (fun hHeld => ?_)
                      · exact ⟨wa, wb, wc, za, zb, zc, cl⟩
                      refine wpAnyH_take (i := 0) (oi := { dst := some 239, op := Op.move (Operand.tmp 24), type := 24, pos := "law.go:112", after := #[], guard := none }) (v := ?vr47x30) rfl (by kernel_rfl) (by kernel_rfl) (by kernel_rfl) (fun _ _ _ h => h) (Or.inl ⟨by rfl, ?hyr47x30⟩) hHeld ?_
                      case hyr47x30 => (intro w hSw; (try dsimp only at hSw); go_simp; (try with_reducible rfl))
                      try simp only [Act.put, List.setIfInBounds_toArray, List.set_cons_zero, List.set_cons_succ]
                      refine wpAnyH_take (i := 1) (oi := { dst := some 240, op := Op.indexAddr 24 (Operand.tmp 239) (Operand.const (Value.int IntKind.i64 2)), type := 0, pos := "law.go:112", after := #[{ on := 0, ground := Ground.data }], guard := none }) (v := ?vr47x31) rfl (by kernel_rfl) (by kernel_rfl) (by kernel_rfl) (fun _ _ _ h => h) (Or.inl ⟨by rfl, ?hyr47x31⟩) hHeld ?_
                      case hyr47x31 => (intro w hSw; (try dsimp only at hSw); go_simp; (try with_reducible rfl))
                      try simp only [Act.put, List.setIfInBounds_toArray, List.set_cons_zero, List.set_cons_succ]
                      refine wpAnyH_take (i := 2) (oi := { dst := some 241, op := Op.load 26 (Operand.tmp 240), type := 26, pos := "law.go:112", after := #[{ on := 1, ground := Ground.data }], guard := none }) (v := ?vr47x32) rfl (by kernel_rfl) (by kernel_rfl) (by kernel_rfl) (fun _ _ _ h => h) (Or.inl ⟨by rfl, ?hyr47x32⟩) hHeld ?_
                      case hyr47x32 => (intro w hSw; (try dsimp only at hSw); go_simp; (try with_reducible rfl))
                      try simp only [Act.put, List.setIfInBounds_toArray, List.set_cons_zero, List.set_cons_succ]
                      refine wpAnyH_take (i := 3) (oi := { dst := some 242, op := Op.binOp BinOp.neq 26 (Operand.tmp 241) (Operand.const (Value.int IntKind.u64 0)) 26, type := 4, pos := "law.go:112", after := #[{ on := 2, ground := Ground.data }], guard := none }) (v := ?vr47x33) rfl (by kernel_rfl) (by kernel_rfl) (by kernel_rfl) (fun _ _ _ h => h) (Or.inl ⟨by rfl, ?hyr47x33⟩) hHeld ?_
                      case hyr47x33 => (intro w hSw; (try dsimp only at hSw); go_simp; (try with_reducible rfl))
                      try simp only [Act.put, List.setIfInBounds_toArray, List.set_cons_zero, List.set_cons_succ]
                      refine wpAnyH_take (i := 4) (oi := { dst := some 243, op := Op.move (Operand.tmp 242), type := 4, pos := "law.go:112", after := #[{ on := 3, ground := Ground.data }], guard := none }) (v := ?vr47x34) rfl (by kernel_rfl) (by kernel_rfl) (by kernel_rfl) (fun _ _ _ h => h) (Or.inl ⟨by rfl, ?hyr47x34⟩) hHeld ?_
                      case hyr47x34 => (intro w hSw; (try dsimp only at hSw); go_simp; (try with_reducible rfl))
                      try simp only [Act.put, List.setIfInBounds_toArray, List.set_cons_zero, List.set_cons_succ]
                      refine wpAnyH_take (i := 5) (oi := { dst := some 244, op := Op.move (Operand.tmp 23), type := 3, pos := "law.go:112", after := #[{ on := 4, ground := Ground.guard }], guard := some (4, true) }) (v := ?vr47x35) rfl (by kernel_rfl) (by kernel_rfl) (by kernel_rfl) (fun _ _ _ h => h) (Or.inl ⟨by rfl, ?hyr47x35⟩) hHeld ?_
                      case hyr47x35 => (intro w hSw; (try dsimp only at hSw); go_simp; (try with_reducible rfl))
                      try simp only [Act.put, List.setIfInBounds_toArray, List.set_cons_zero, List.set_cons_succ]
                      refine wpAnyH_take (i := 6) (oi := { dst := some 245, op := Op.move (Operand.tmp 8), type := 41, pos := "law.go:112", after := #[{ on := 4, ground := Ground.guard }], guard := some (4, true) }) (v := ?vr47x36) rfl (by kernel_rfl) (by kernel_rfl) (by kernel_rfl) (fun _ _ _ h => h) (Or.inl ⟨by rfl, ?hyr47x36⟩) hHeld ?_
                      case hyr47x36 => (intro w hSw; (try dsimp only at hSw); go_simp; (try with_reducible rfl))
                      try simp only [Act.put, List.setIfInBounds_toArray, List.set_cons_zero, List.set_cons_succ]
                      refine wpAnyH_take (i := 7) (oi := { dst := some 246, op := Op.move (Operand.tmp 8), type := 41, pos := "law.go:112", after := #[{ on := 4, ground := Ground.guard }], guard := some (4, true) }) (v := ?vr47x37) rfl (by kernel_rfl) (by kernel_rfl) (by kernel_rfl) (fun _ _ _ h => h) (Or.inl ⟨by rfl, ?hyr47x37⟩) hHeld ?_
                      case hyr47x37 => (intro w hSw; (try dsimp only at hSw); go_simp; (try with_reducible rfl))
                      try simp only [Act.put, List.setIfInBounds_toArray, List.set_cons_zero, List.set_cons_succ]
                      refine wpAnyH_take (i := 8) (oi := { dst := some 247, op := Op.call { callee := Callee.builtin Builtin.len, args := #[Operand.tmp 246], argTypes := #[41] }, type := 3, pos := "law.go:112", after := #[{ on := 7, ground := Ground.data }, { on := 4, ground := Ground.guard }], guard := some (4, true) }) (v := ?vr47x38) rfl (by kernel_rfl) (by kernel_rfl) (by kernel_rfl) (fun _ _ _ h => h) (Or.inl ⟨by rfl, ?hyr47x38⟩) hHeld ?_
                      case hyr47x38 => (intro w hSw; (try dsimp only at hSw); go_simp; (try with_reducible rfl))
                      try simp only [Act.put, List.setIfInBounds_toArray, List.set_cons_zero, List.set_cons_succ]
                      refine wpAnyH_take (i := 9) (oi := { dst := some 248, op := Op.binOp BinOp.sub 3 (Operand.tmp 247) (Operand.const (Value.int IntKind.i64 1)) 3, type := 3, pos := "law.go:112", after := #[{ on := 8, ground := Ground.data }, { on := 4, ground := Ground.guard }], guard := some (4, true) }) (v := ?vr47x39) rfl (by kernel_rfl) (by kernel_rfl) (by kernel_rfl) (fun _ _ _ h => h) (Or.inl ⟨by rfl, ?hyr47x39⟩) hHeld ?_
                      case hyr47x39 => (intro w hSw; (try dsimp only at hSw); go_simp; (try with_reducible rfl))
                      try simp only [Act.put, List.setIfInBounds_toArray, List.set_cons_zero, List.set_cons_succ]
                      refine wpAnyH_take (i := 10) (oi := { dst := some 249, op := Op.indexAddr 41 (Operand.tmp 245) (Operand.tmp 248), type := 0, pos := "law.go:112", after := #[{ on := 6, ground := Ground.data }, { on := 9, ground := Ground.data }, { on := 4, ground := Ground.guard }], guard := some (4, true) }) (v := ?vr47x310) rfl (by kernel_rfl) (by kernel_rfl) (by kernel_rfl) (fun _ _ _ h => h) (Or.inl ⟨by rfl, ?hyr47x310⟩) hHeld ?_
                      case hyr47x310 => (intro w hSw; (try dsimp only at hSw); go_simp; (try with_reducible rfl))
                      try simp only [Act.put, List.setIfInBounds_toArray, List.set_cons_zero, List.set_cons_succ]
                      refine wpAnyH_take (i := 11) (oi := { dst := some 250, op := Op.load 3 (Operand.tmp 249), type := 3, pos := "law.go:112", after := #[{ on := 10, ground := Ground.data }, { on := 4, ground := Ground.guard }], guard := some (4, true) }) (v := ?vr47x311) rfl (by kernel_rfl) (by kernel_rfl) (by kernel_rfl) (fun _ _ _ h => h) (Or.inl ⟨by rfl, ?hyr47x311⟩) hHeld ?_
                      case hyr47x311 => (intro w hSw; (try dsimp only at hSw); go_simp; (try with_reducible rfl))
                      try simp only [Act.put, List.setIfInBounds_toArray, List.set_cons_zero, List.set_cons_succ]
                      refine wpAnyH_take (i := 12) (oi := { dst := some 251, op := Op.binOp BinOp.neq 3 (Operand.tmp 244) (Operand.tmp 250) 3, type := 4, pos := "law.go:112", after := #[{ on := 5, ground := Ground.data }, { on := 11, ground := Ground.data }, { on := 4, ground := Ground.guard }], guard := some (4, true) }) (v := ?vr47x312) rfl (by kernel_rfl) (by kernel_rfl) (by kernel_rfl) (fun _ _ _ h => h) (Or.inl ⟨by rfl, ?hyr47x312⟩) hHeld ?_
                      case hyr47x312 => (intro w hSw; (try dsimp only at hSw); go_simp; (try with_reducible rfl))
                      try simp only [Act.put, List.setIfInBounds_toArray, List.set_cons_zero, List.set_cons_succ]
                      refine wpAnyH_take (i := 13) (oi := { dst := some 252, op := Op.pick (Operand.tmp 243) (Operand.tmp 251) (Operand.const (Value.bool false)), type := 4, pos := "law.go:112", after := #[{ on := 4, ground := Ground.data }, { on := 12, ground := Ground.data }], guard := none }) (v := ?vr47x313) rfl (by kernel_rfl) (by kernel_rfl) (by kernel_rfl) (fun _ _ _ h => h) (Or.inl ⟨by rfl, ?hyr47x313⟩) hHeld ?_
                      case hyr47x313 => (intro w hSw; (try dsimp only at hSw); go_simp; (try with_reducible rfl))
                      try simp only [Act.put, List.setIfInBounds_toArray, List.set_cons_zero, List.set_cons_succ]
                      refine wpAnyH_take (i := 14) (oi := { dst := some 253, op := Op.move (Operand.tmp 252), type := 4, pos := "law.go:112", after := #[{ on := 13, ground := Ground.data }, { on := 4, ground := Ground.chain }], guard := none }) (v := ?vr47x314) rfl (by kernel_rfl) (by kernel_rfl) (by kernel_rfl) (fun _ _ _ h => h) (Or.inl ⟨by rfl, ?hyr47x314⟩) hHeld ?_
                      case hyr47x314 => (intro w hSw; (try dsimp only at hSw); go_simp; (try with_reducible rfl))
                      try simp only [Act.put, List.setIfInBounds_toArray, List.set_cons_zero, List.set_cons_succ]
                      refine wpAnyH_take (i := 15) (oi := { dst := some 254, op := Op.move (Operand.tmp 25), type := 24, pos := "law.go:112", after := #[{ on := 14, ground := Ground.guard }], guard := some (14, true) }) (v := undef) rfl (by kernel_rfl) (by kernel_rfl) (by kernel_rfl) (fun _ _ _ h => h) (Or.inr ⟨by rfl, rfl⟩) hHeld ?_
                      try simp only [Act.put, List.setIfInBounds_toArray, List.set_cons_zero, List.set_cons_succ]
                      refine wpAnyH_take (i := 16) (oi := { dst := some 255, op := Op.indexAddr 24 (Operand.tmp 254) (Operand.const (Value.int IntKind.i64 1)), type := 0, pos := "law.go:112", after := #[{ on := 15, ground := Ground.data }, { on := 14, ground := Ground.guard }], guard := some (14, true) }) (v := undef) rfl (by kernel_rfl) (by kernel_rfl) (by kernel_rfl) (fun _ _ _ h => h) (Or.inr ⟨by rfl, rfl⟩) hHeld ?_
                      try simp only [Act.put, List.setIfInBounds_toArray, List.set_cons_zero, List.set_cons_succ]
                      refine wpAnyH_take (i := 17) (oi := { dst := some 256, op := Op.load 26 (Operand.tmp 255), type := 26, pos := "law.go:112", after := #[{ on := 16, ground := Ground.data }, { on := 14, ground := Ground.guard }], guard := some (14, true) }) (v := undef) rfl (by kernel_rfl) (by kernel_rfl) (by kernel_rfl) (fun _ _ _ h => h) (Or.inr ⟨by rfl, rfl⟩) hHeld ?_
                      try simp only [Act.put, List.setIfInBounds_toArray, List.set_cons_zero, List.set_cons_succ]
                      refine wpAnyH_take (i := 18) (oi := { dst := some 257, op := Op.move (Operand.tmp 24), type := 24, pos := "law.go:112", after := #[{ on := 14, ground := Ground.guard }], guard := some (14, true) }) (v := undef) rfl (by kernel_rfl) (by kernel_rfl) (by kernel_rfl) (fun _ _ _ h => h) (Or.inr ⟨by rfl, rfl⟩) hHeld ?_
                      try simp only [Act.put, List.setIfInBounds_toArray, List.set_cons_zero, List.set_cons_succ]
                      refine wpAnyH_take (i := 19) (oi := { dst := some 258, op := Op.indexAddr 24 (Operand.tmp 257) (Operand.const (Value.int IntKind.i64 1)), type := 0, pos := "law.go:112", after := #[{ on := 18, ground := Ground.data }, { on := 14, ground := Ground.guard }], guard := some (14, true) }) (v := undef) rfl (by kernel_rfl) (by kernel_rfl) (by kernel_rfl) (fun _ _ _ h => h) (Or.inr ⟨by rfl, rfl⟩) hHeld ?_
                      try simp only [Act.put, List.setIfInBounds_toArray, List.set_cons_zero, List.set_cons_succ]
                      refine wpAnyH_take (i := 20) (oi := { dst := some 259, op := Op.load 26 (Operand.tmp 258), type := 26, pos := "law.go:112", after := #[{ on := 19, ground := Ground.data }, { on := 14, ground := Ground.guard }], guard := some (14, true) }) (v := undef) rfl (by kernel_rfl) (by kernel_rfl) (by kernel_rfl) (fun _ _ _ h => h) (Or.inr ⟨by rfl, rfl⟩) hHeld ?_
                      try simp only [Act.put, List.setIfInBounds_toArray, List.set_cons_zero, List.set_cons_succ]
                      refine wpAnyH_take (i := 21) (oi := { dst := some 260, op := Op.binOp BinOp.neq 26 (Operand.tmp 256) (Operand.tmp 259) 26, type := 4, pos := "law.go:112", after := #[{ on := 17, ground := Ground.data }, { on := 20, ground := Ground.data }, { on := 14, ground := Ground.guard }], guard := some (14, true) }) (v := undef) rfl (by kernel_rfl) (by kernel_rfl) (by kernel_rfl) (fun _ _ _ h => h) (Or.inr ⟨by rfl, rfl⟩) hHeld ?_
                      try simp only [Act.put, List.setIfInBounds_toArray, List.set_cons_zero, List.set_cons_succ]
                      refine wpAnyH_take (i := 22) (oi := { dst := some 261, op := Op.pick (Operand.tmp 253) (Operand.tmp 260) (Operand.const (Value.bool false)), type := 4, pos := "law.go:112", after := #[{ on := 14, ground := Ground.data }, { on := 21, ground := Ground.data }], guard := none }) (v := ?vr47x322) rfl (by kernel_rfl) (by kernel_rfl) (by kernel_rfl) (fun _ _ _ h => h) (Or.inl ⟨by rfl, ?hyr47x322⟩) hHeld ?_
                      case hyr47x322 => (intro w hSw; (try dsimp only at hSw); go_simp; (try with_reducible rfl))
                      try simp only [Act.put, List.setIfInBounds_toArray, List.set_cons_zero, List.set_cons_succ]
                      refine wpAnyH_done (by kernel_rfl) ?_ _
                      clear hHeld wa wb wc za zb zc cl
                      have HF2 : Hid (wd1.drew.cell? ⟨bz, off + lo, none⟩ = some (.int .u64 da) ∧ wd1.drew.cell? ⟨bz, off + lo + 1, none⟩ = some (.int .u64 cd) ∧ wd1.drew.cell? ⟨bz, off + lo + 2, none⟩ = some (.int .u64 2) ∧ wd1.drew.cell? ⟨Z, lo, none⟩ = some (.int .u64 da) ∧ wd1.drew.cell? ⟨Z, lo + 1, none⟩ = some (.int .u64 dd) ∧ wd1.drew.cell? ⟨Z, lo + 2, none⟩ = some (.int .u64 0) ∧ wd1.drew.cell? ⟨g, k - 1, none⟩ = some (.int .i64 (i : Int))) := Lib.hid HF1.out
                      have HZ4 := Lib.hid HZ3.out.drew; have HI4 := Lib.hid HI3.out.drew
                      clear HZ3 HI3 HF1
                      have HZ3 := HZ4; have HI3 := HI4
                      clear HZ4 HI4
                      generalize wd1.drew = wd2 at *
                      clear HF2
                      go_wp2_with fail
                      go_roundw
                      case rel => exact ⟨i + 1, by go_num, by omega, HZ3, HI3⟩
                      case measure => simp [intOf]; omega
                    · have ne1 : ((i : Int) != (t : Int)) = true := by simp; omega
                      obtain rfl := cL (by decide) hit
                      clear cL
                      obtain ⟨wa, wb, wc, za, zb, zc, cl⟩ := HF0.out
                      go_wp2_with fail
                      refine wp_region_held_drew (S := (fun w' => w'.cell? ⟨bz, off + lo, none⟩ = some (.int .u64 da) ∧ w'.cell? ⟨bz, off + lo + 1, none⟩ = some (.int .u64 dd) ∧ w'.cell? ⟨bz, off + lo + 2, none⟩ = some (.int .u64 2) ∧ w'.cell? ⟨Z, lo, none⟩ = some (.int .u64 da) ∧ w'.cell? ⟨Z, lo + 1, none⟩ = some (.int .u64 dd) ∧ w'.cell? ⟨Z, lo + 2, none⟩ = some (.int .u64 0) ∧ w'.cell? ⟨g, k - 1, none⟩ = some (.int .i64 (t : Int)))) (by kernel_rfl) ?_ (fun hHeld => ?_)
                      · exact ⟨wa, wb, wc, za, zb, zc, cl⟩
                      refine wpAnyH_take (i := 0) (oi := { dst := some 226, op := Op.move (Operand.tmp 25), type := 24, pos := "law.go:104", after := #[], guard := none }) (v := ?vr45x40) rfl (by kernel_rfl) (by kernel_rfl) (by kernel_rfl) (fun _ _ _ h => h) (Or.inl ⟨by rfl, ?hyr45x40⟩) hHeld ?_
                      case hyr45x40 => (intro w hSw; (try dsimp only at hSw); go_simp; (try with_reducible rfl))
                      try simp only [Act.put, List.setIfInBounds_toArray, List.set_cons_zero, List.set_cons_succ]
                      refine wpAnyH_take (i := 1) (oi := { dst := some 227, op := Op.indexAddr 24 (Operand.tmp 226) (Operand.const (Value.int IntKind.i64 0)), type := 0, pos := "law.go:104", after := #[{ on := 0, ground := Ground.data }], guard := none }) (v := ?vr45x41) rfl (by kernel_rfl) (by kernel_rfl) (by kernel_rfl) (fun _ _ _ h => h) (Or.inl ⟨by rfl, ?hyr45x41⟩) hHeld ?_
                      case hyr45x41 => (intro w hSw; (try dsimp only at hSw); go_simp; (try with_reducible rfl))
                      try simp only [Act.put, List.setIfInBounds_toArray, List.set_cons_zero, List.set_cons_succ]
                      refine wpAnyH_take (i := 2) (oi := { dst := some 228, op := Op.load 26 (Operand.tmp 227), type := 26, pos := "law.go:104", after := #[{ on := 1, ground := Ground.data }], guard := none }) (v := ?vr45x42) rfl (by kernel_rfl) (by kernel_rfl) (by kernel_rfl) (fun _ _ _ h => h) (Or.inl ⟨by rfl, ?hyr45x42⟩) hHeld ?_
                      case hyr45x42 => (intro w hSw; (try dsimp only at hSw); go_simp; (try with_reducible rfl))
                      try simp only [Act.put, List.setIfInBounds_toArray, List.set_cons_zero, List.set_cons_succ]
                      refine wpAnyH_take (i := 3) (oi := { dst := some 229, op := Op.move (Operand.tmp 24), type := 24, pos := "law.go:104", after := #[], guard := none }) (v := ?vr45x43) rfl (by kernel_rfl) (by kernel_rfl) (by kernel_rfl) (fun _ _ _ h => h) (Or.inl ⟨by rfl, ?hyr45x43⟩) hHeld ?_
                      case hyr45x43 => (intro w hSw; (try dsimp only at hSw); go_simp; (try with_reducible rfl))
                      try simp only [Act.put, List.setIfInBounds_toArray, List.set_cons_zero, List.set_cons_succ]
                      refine wpAnyH_take (i := 4) (oi := { dst := some 230, op := Op.indexAddr 24 (Operand.tmp 229) (Operand.const (Value.int IntKind.i64 0)), type := 0, pos := "law.go:104", after := #[{ on := 3, ground := Ground.data }], guard := none }) (v := ?vr45x44) rfl (by kernel_rfl) (by kernel_rfl) (by kernel_rfl) (fun _ _ _ h => h) (Or.inl ⟨by rfl, ?hyr45x44⟩) hHeld ?_
                      case hyr45x44 => (intro w hSw; (try dsimp only at hSw); go_simp; (try with_reducible rfl))
                      try simp only [Act.put, List.setIfInBounds_toArray, List.set_cons_zero, List.set_cons_succ]
                      refine wpAnyH_take (i := 5) (oi := { dst := some 231, op := Op.load 26 (Operand.tmp 230), type := 26, pos := "law.go:104", after := #[{ on := 4, ground := Ground.data }], guard := none }) (v := ?vr45x45) rfl (by kernel_rfl) (by kernel_rfl) (by kernel_rfl) (fun _ _ _ h => h) (Or.inl ⟨by rfl, ?hyr45x45⟩) hHeld ?_
                      case hyr45x45 => (intro w hSw; (try dsimp only at hSw); go_simp; (try with_reducible rfl))
                      try simp only [Act.put, List.setIfInBounds_toArray, List.set_cons_zero, List.set_cons_succ]
                      refine wpAnyH_take (i := 6) (oi := { dst := some 232, op := Op.binOp BinOp.neq 26 (Operand.tmp 228) (Operand.tmp 231) 26, type := 4, pos := "law.go:104", after := #[{ on := 2, ground := Ground.data }, { on := 5, ground := Ground.data }], guard := none }) (v := ?vr45x46) rfl (by kernel_rfl) (by kernel_rfl) (by kernel_rfl) (fun _ _ _ h => h) (Or.inl ⟨by rfl, ?hyr45x46⟩) hHeld ?_
                      case hyr45x46 => (intro w hSw; (try dsimp only at hSw); go_simp; (try with_reducible rfl))
                      try simp only [Act.put, List.setIfInBounds_toArray, List.set_cons_zero, List.set_cons_succ]
                      refine wpAnyH_take (i := 7) (oi := { dst := some 233, op := Op.move (Operand.tmp 232), type := 4, pos := "law.go:104", after := #[{ on := 6, ground := Ground.data }], guard := none }) (v := ?vr45x47) rfl (by kernel_rfl) (by kernel_rfl) (by kernel_rfl) (fun _ _ _ h => h) (Or.inl ⟨by rfl, ?hyr45x47⟩) hHeld ?_
                      case hyr45x47 => (intro w hSw; (try dsimp only at hSw); go_simp; (try with_reducible rfl))
                      try simp only [Act.put, List.setIfInBounds_toArray, List.set_cons_zero, List.set_cons_succ]
                      refine wpAnyH_take (i := 8) (oi := { dst := some 234, op := Op.move (Operand.tmp 25), type := 24, pos := "law.go:104", after := #[{ on := 7, ground := Ground.guard }], guard := some (7, false) }) (v := ?vr45x48) rfl (by kernel_rfl) (by kernel_rfl) (by kernel_rfl) (fun _ _ _ h => h) (Or.inl ⟨by rfl, ?hyr45x48⟩) hHeld ?_
                      case hyr45x48 => (intro w hSw; (try dsimp only at hSw); go_simp; (try with_reducible rfl))
                      try simp only [Act.put, List.setIfInBounds_toArray, List.set_cons_zero, List.set_cons_succ]
                      refine wpAnyH_take (i := 9) (oi := { dst := some 235, op := Op.indexAddr 24 (Operand.tmp 234) (Operand.const (Value.int IntKind.i64 2)), type := 0, pos := "law.go:104", after := #[{ on := 8, ground := Ground.data }, { on := 7, ground := Ground.guard }], guard := some (7, false) }) (v := ?vr45x49) rfl (by kernel_rfl) (by kernel_rfl) (by kernel_rfl) (fun _ _ _ h => h) (Or.inl ⟨by rfl, ?hyr45x49⟩) hHeld ?_
                      case hyr45x49 => (intro w hSw; (try dsimp only at hSw); go_simp; (try with_reducible rfl))
                      try simp only [Act.put, List.setIfInBounds_toArray, List.set_cons_zero, List.set_cons_succ]
                      refine wpAnyH_take (i := 10) (oi := { dst := some 236, op := Op.load 26 (Operand.tmp 235), type := 26, pos := "law.go:104", after := #[{ on := 9, ground := Ground.data }, { on := 7, ground := Ground.guard }], guard := some (7, false) }) (v := ?vr45x410) rfl (by kernel_rfl) (by kernel_rfl) (by kernel_rfl) (fun _ _ _ h => h) (Or.inl ⟨by rfl, ?hyr45x410⟩) hHeld ?_
                      case hyr45x410 => (intro w hSw; (try dsimp only at hSw); go_simp; (try with_reducible rfl))
                      try simp only [Act.put, List.setIfInBounds_toArray, List.set_cons_zero, List.set_cons_succ]
                      refine wpAnyH_take (i := 11) (oi := { dst := some 237, op := Op.binOp BinOp.neq 26 (Operand.tmp 236) (Operand.const (Value.int IntKind.u64 0)) 26, type := 4, pos := "law.go:104", after := #[{ on := 10, ground := Ground.data }, { on := 7, ground := Ground.guard }], guard := some (7, false) }) (v := ?vr45x411) rfl (by kernel_rfl) (by kernel_rfl) (by kernel_rfl) (fun _ _ _ h => h) (Or.inl ⟨by rfl, ?hyr45x411⟩) hHeld ?_
                      case hyr45x411 => (intro w hSw; (try dsimp only at hSw); go_simp; (try with_reducible rfl))
                      try simp only [Act.put, List.setIfInBounds_toArray, List.set_cons_zero, List.set_cons_succ]
                      refine wpAnyH_take (i := 12) (oi := { dst := some 238, op := Op.pick (Operand.tmp 233) (Operand.const (Value.bool true)) (Operand.tmp 237), type := 4, pos := "law.go:104", after := #[{ on := 7, ground := Ground.data }, { on := 11, ground := Ground.data }], guard := none }) (v := ?vr45x412) rfl (by kernel_rfl) (by kernel_rfl) (by kernel_rfl) (fun _ _ _ h => h) (Or.inl ⟨by rfl, ?hyr45x412⟩) hHeld ?_
                      case hyr45x412 => (intro w hSw; (try dsimp only at hSw); go_simp; (try with_reducible rfl))
                      try simp only [Act.put, List.setIfInBounds_toArray, List.set_cons_zero, List.set_cons_succ]
                      refine wpAnyH_done (by kernel_rfl) ?_ _
                      clear hHeld wa wb wc za zb zc cl
                      have HF1 : Hid (wd.drew.cell? ⟨bz, off + lo, none⟩ = some (.int .u64 da) ∧ wd.drew.cell? ⟨bz, off + lo + 1, none⟩ = some (.int .u64 dd) ∧ wd.drew.cell? ⟨bz, off + lo + 2, none⟩ = some (.int .u64 2) ∧ wd.drew.cell? ⟨Z, lo, none⟩ = some (.int .u64 da) ∧ wd.drew.cell? ⟨Z, lo + 1, none⟩ = some (.int .u64 dd) ∧ wd.drew.cell? ⟨Z, lo + 2, none⟩ = some (.int .u64 0) ∧ wd.drew.cell? ⟨g, k - 1, none⟩ = some (.int .i64 (t : Int))) := Lib.hid HF0.out
                      have HZ4 := Lib.hid HZ3.out.drew; have HI4 := Lib.hid HI3.out.drew
                      clear HZ3 HI3 HF0
                      have HZ3 := HZ4; have HI3 := HI4
                      clear HZ4 HI4
                      generalize wd.drew = wd1 at *
                      obtain ⟨wa, wb, wc, za, zb, zc, cl⟩ := HF1.out
                      go_wp2_with fail
                      refine wp_region_held_drew (S := (fun w' => w'.cell? ⟨bz, off + lo, none⟩ = some (.int .u64 da) ∧ w'.cell? ⟨bz, off + lo + 1, none⟩ = some (.int .u64 dd) ∧ w'.cell? ⟨bz, off + lo + 2, none⟩ = some (.int .u64 2) ∧ w'.cell? ⟨Z, lo, none⟩ = some (.int .u64 da) ∧ w'.cell? ⟨Z, lo + 1, none⟩ = some (.int .u64 dd) ∧ w'.cell? ⟨Z, lo + 2, none⟩ = some (.int .u64 0) ∧ w'.cell? ⟨g, k - 1, none⟩ = some (.int .i64 (t : Int)))) (by kernel_rfl) ?_ (fun hHeld => ?_)
                      · exact ⟨wa, wb, wc, za, zb, zc, cl⟩
                      refine wpAnyH_take (i := 0) (oi := { dst := some 239, op := Op.move (Operand.tmp 24), type := 24, pos := "law.go:112", after := #[], guard := none }) (v := ?vr47x50) rfl (by kernel_rfl) (by kernel_rfl) (by kernel_rfl) (fun _ _ _ h => h) (Or.inl ⟨by rfl, ?hyr47x50⟩) hHeld ?_
                      case hyr47x50 => (intro w hSw; (try dsimp only at hSw); go_simp; (try with_reducible rfl))
                      try simp only [Act.put, List.setIfInBounds_toArray, List.set_cons_zero, List.set_cons_succ]
                      refine wpAnyH_take (i := 1) (oi := { dst := some 240, op := Op.indexAddr 24 (Operand.tmp 239) (Operand.const (Value.int IntKind.i64 2)), type := 0, pos := "law.go:112", after := #[{ on := 0, ground := Ground.data }], guard := none }) (v := ?vr47x51) rfl (by kernel_rfl) (by kernel_rfl) (by kernel_rfl) (fun _ _ _ h => h) (Or.inl ⟨by rfl, ?hyr47x51⟩) hHeld ?_
                      case hyr47x51 => (intro w hSw; (try dsimp only at hSw); go_simp; (try with_reducible rfl))
                      try simp only [Act.put, List.setIfInBounds_toArray, List.set_cons_zero, List.set_cons_succ]
                      refine wpAnyH_take (i := 2) (oi := { dst := some 241, op := Op.load 26 (Operand.tmp 240), type := 26, pos := "law.go:112", after := #[{ on := 1, ground := Ground.data }], guard := none }) (v := ?vr47x52) rfl (by kernel_rfl) (by kernel_rfl) (by kernel_rfl) (fun _ _ _ h => h) (Or.inl ⟨by rfl, ?hyr47x52⟩) hHeld ?_
                      case hyr47x52 => (intro w hSw; (try dsimp only at hSw); go_simp; (try with_reducible rfl))
                      try simp only [Act.put, List.setIfInBounds_toArray, List.set_cons_zero, List.set_cons_succ]
                      refine wpAnyH_take (i := 3) (oi := { dst := some 242, op := Op.binOp BinOp.neq 26 (Operand.tmp 241) (Operand.const (Value.int IntKind.u64 0)) 26, type := 4, pos := "law.go:112", after := #[{ on := 2, ground := Ground.data }], guard := none }) (v := ?vr47x53) rfl (by kernel_rfl) (by kernel_rfl) (by kernel_rfl) (fun _ _ _ h => h) (Or.inl ⟨by rfl, ?hyr47x53⟩) hHeld ?_
                      case hyr47x53 => (intro w hSw; (try dsimp only at hSw); go_simp; (try with_reducible rfl))
                      try simp only [Act.put, List.setIfInBounds_toArray, List.set_cons_zero, List.set_cons_succ]
                      refine wpAnyH_take (i := 4) (oi := { dst := some 243, op := Op.move (Operand.tmp 242), type := 4, pos := "law.go:112", after := #[{ on := 3, ground := Ground.data }], guard := none }) (v := ?vr47x54) rfl (by kernel_rfl) (by kernel_rfl) (by kernel_rfl) (fun _ _ _ h => h) (Or.inl ⟨by rfl, ?hyr47x54⟩) hHeld ?_
                      case hyr47x54 => (intro w hSw; (try dsimp only at hSw); go_simp; (try with_reducible rfl))
                      try simp only [Act.put, List.setIfInBounds_toArray, List.set_cons_zero, List.set_cons_succ]
                      refine wpAnyH_take (i := 5) (oi := { dst := some 244, op := Op.move (Operand.tmp 23), type := 3, pos := "law.go:112", after := #[{ on := 4, ground := Ground.guard }], guard := some (4, true) }) (v := ?vr47x55) rfl (by kernel_rfl) (by kernel_rfl) (by kernel_rfl) (fun _ _ _ h => h) (Or.inl ⟨by rfl, ?hyr47x55⟩) hHeld ?_
                      case hyr47x55 => (intro w hSw; (try dsimp only at hSw); go_simp; (try with_reducible rfl))
                      try simp only [Act.put, List.setIfInBounds_toArray, List.set_cons_zero, List.set_cons_succ]
                      refine wpAnyH_take (i := 6) (oi := { dst := some 245, op := Op.move (Operand.tmp 8), type := 41, pos := "law.go:112", after := #[{ on := 4, ground := Ground.guard }], guard := some (4, true) }) (v := ?vr47x56) rfl (by kernel_rfl) (by kernel_rfl) (by kernel_rfl) (fun _ _ _ h => h) (Or.inl ⟨by rfl, ?hyr47x56⟩) hHeld ?_
                      case hyr47x56 => (intro w hSw; (try dsimp only at hSw); go_simp; (try with_reducible rfl))
                      try simp only [Act.put, List.setIfInBounds_toArray, List.set_cons_zero, List.set_cons_succ]
                      refine wpAnyH_take (i := 7) (oi := { dst := some 246, op := Op.move (Operand.tmp 8), type := 41, pos := "law.go:112", after := #[{ on := 4, ground := Ground.guard }], guard := some (4, true) }) (v := ?vr47x57) rfl (by kernel_rfl) (by kernel_rfl) (by kernel_rfl) (fun _ _ _ h => h) (Or.inl ⟨by rfl, ?hyr47x57⟩) hHeld ?_
                      case hyr47x57 => (intro w hSw; (try dsimp only at hSw); go_simp; (try with_reducible rfl))
                      try simp only [Act.put, List.setIfInBounds_toArray, List.set_cons_zero, List.set_cons_succ]
                      refine wpAnyH_take (i := 8) (oi := { dst := some 247, op := Op.call { callee := Callee.builtin Builtin.len, args := #[Operand.tmp 246], argTypes := #[41] }, type := 3, pos := "law.go:112", after := #[{ on := 7, ground := Ground.data }, { on := 4, ground := Ground.guard }], guard := some (4, true) }) (v := ?vr47x58) rfl (by kernel_rfl) (by kernel_rfl) (by kernel_rfl) (fun _ _ _ h => h) (Or.inl ⟨by rfl, ?hyr47x58⟩) hHeld ?_
                      case hyr47x58 => (intro w hSw; (try dsimp only at hSw); go_simp; (try with_reducible rfl))
                      try simp only [Act.put, List.setIfInBounds_toArray, List.set_cons_zero, List.set_cons_succ]
                      refine wpAnyH_take (i := 9) (oi := { dst := some 248, op := Op.binOp BinOp.sub 3 (Operand.tmp 247) (Operand.const (Value.int IntKind.i64 1)) 3, type := 3, pos := "law.go:112", after := #[{ on := 8, ground := Ground.data }, { on := 4, ground := Ground.guard }], guard := some (4, true) }) (v := ?vr47x59) rfl (by kernel_rfl) (by kernel_rfl) (by kernel_rfl) (fun _ _ _ h => h) (Or.inl ⟨by rfl, ?hyr47x59⟩) hHeld ?_
                      case hyr47x59 => (intro w hSw; (try dsimp only at hSw); go_simp; (try with_reducible rfl))
                      try simp only [Act.put, List.setIfInBounds_toArray, List.set_cons_zero, List.set_cons_succ]
                      refine wpAnyH_take (i := 10) (oi := { dst := some 249, op := Op.indexAddr 41 (Operand.tmp 245) (Operand.tmp 248), type := 0, pos := "law.go:112", after := #[{ on := 6, ground := Ground.data }, { on := 9, ground := Ground.data }, { on := 4, ground := Ground.guard }], guard := some (4, true) }) (v := ?vr47x510) rfl (by kernel_rfl) (by kernel_rfl) (by kernel_rfl) (fun _ _ _ h => h) (Or.inl ⟨by rfl, ?hyr47x510⟩) hHeld ?_
                      case hyr47x510 => (intro w hSw; (try dsimp only at hSw); go_simp; (try with_reducible rfl))
                      try simp only [Act.put, List.setIfInBounds_toArray, List.set_cons_zero, List.set_cons_succ]
                      refine wpAnyH_take (i := 11) (oi := { dst := some 250, op := Op.load 3 (Operand.tmp 249), type := 3, pos := "law.go:112", after := #[{ on := 10, ground := Ground.data }, { on := 4, ground := Ground.guard }], guard := some (4, true) }) (v := ?vr47x511) rfl (by kernel_rfl) (by kernel_rfl) (by kernel_rfl) (fun _ _ _ h => h) (Or.inl ⟨by rfl, ?hyr47x511⟩) hHeld ?_
                      case hyr47x511 => (intro w hSw; (try dsimp only at hSw); go_simp; (try with_reducible rfl))
                      try simp only [Act.put, List.setIfInBounds_toArray, List.set_cons_zero, List.set_cons_succ]
                      refine wpAnyH_take (i := 12) (oi := { dst := some 251, op := Op.binOp BinOp.neq 3 (Operand.tmp 244) (Operand.tmp 250) 3, type := 4, pos := "law.go:112", after := #[{ on := 5, ground := Ground.data }, { on := 11, ground := Ground.data }, { on := 4, ground := Ground.guard }], guard := some (4, true) }) (v := ?vr47x512) rfl (by kernel_rfl) (by kernel_rfl) (by kernel_rfl) (fun _ _ _ h => h) (Or.inl ⟨by rfl, ?hyr47x512⟩) hHeld ?_
                      case hyr47x512 => (intro w hSw; (try dsimp only at hSw); go_simp; (try with_reducible rfl))
                      try simp only [Act.put, List.setIfInBounds_toArray, List.set_cons_zero, List.set_cons_succ]
                      refine wpAnyH_take (i := 13) (oi := { dst := some 252, op := Op.pick (Operand.tmp 243) (Operand.tmp 251) (Operand.const (Value.bool false)), type := 4, pos := "law.go:112", after := #[{ on := 4, ground := Ground.data }, { on := 12, ground := Ground.data }], guard := none }) (v := ?vr47x513) rfl (by kernel_rfl) (by kernel_rfl) (by kernel_rfl) (fun _ _ _ h => h) (Or.inl ⟨by rfl, ?hyr47x513⟩) hHeld ?_
                      case hyr47x513 => (intro w hSw; (try dsimp only at hSw); go_simp; (try with_reducible rfl))
                      try simp only [Act.put, List.setIfInBounds_toArray, List.set_cons_zero, List.set_cons_succ]
                      refine wpAnyH_take (i := 14) (oi := { dst := some 253, op := Op.move (Operand.tmp 252), type := 4, pos := "law.go:112", after := #[{ on := 13, ground := Ground.data }, { on := 4, ground := Ground.chain }], guard := none }) (v := ?vr47x514) rfl (by kernel_rfl) (by kernel_rfl) (by kernel_rfl) (fun _ _ _ h => h) (Or.inl ⟨by rfl, ?hyr47x514⟩) hHeld ?_
                      case hyr47x514 => (intro w hSw; (try dsimp only at hSw); go_simp; (try with_reducible rfl))
                      try simp only [Act.put, List.setIfInBounds_toArray, List.set_cons_zero, List.set_cons_succ]
                      refine wpAnyH_take (i := 15) (oi := { dst := some 254, op := Op.move (Operand.tmp 25), type := 24, pos := "law.go:112", after := #[{ on := 14, ground := Ground.guard }], guard := some (14, true) }) (v := ?vr47x515) rfl (by kernel_rfl) (by kernel_rfl) (by kernel_rfl) (fun _ _ _ h => h) (Or.inl ⟨by rfl, ?hyr47x515⟩) hHeld ?_
                      case hyr47x515 => (intro w hSw; (try dsimp only at hSw); go_simp; (try with_reducible rfl))
                      try simp only [Act.put, List.setIfInBounds_toArray, List.set_cons_zero, List.set_cons_succ]
                      refine wpAnyH_take (i := 16) (oi := { dst := some 255, op := Op.indexAddr 24 (Operand.tmp 254) (Operand.const (Value.int IntKind.i64 1)), type := 0, pos := "law.go:112", after := #[{ on := 15, ground := Ground.data }, { on := 14, ground := Ground.guard }], guard := some (14, true) }) (v := ?vr47x516) rfl (by kernel_rfl) (by kernel_rfl) (by kernel_rfl) (fun _ _ _ h => h) (Or.inl ⟨by rfl, ?hyr47x516⟩) hHeld ?_
                      case hyr47x516 => (intro w hSw; (try dsimp only at hSw); go_simp; (try with_reducible rfl))
                      try simp only [Act.put, List.setIfInBounds_toArray, List.set_cons_zero, List.set_cons_succ]
                      refine wpAnyH_take (i := 17) (oi := { dst := some 256, op := Op.load 26 (Operand.tmp 255), type := 26, pos := "law.go:112", after := #[{ on := 16, ground := Ground.data }, { on := 14, ground := Ground.guard }], guard := some (14, true) }) (v := ?vr47x517) rfl (by kernel_rfl) (by kernel_rfl) (by kernel_rfl) (fun _ _ _ h => h) (Or.inl ⟨by rfl, ?hyr47x517⟩) hHeld ?_
                      case hyr47x517 => (intro w hSw; (try dsimp only at hSw); go_simp; (try with_reducible rfl))
                      try simp only [Act.put, List.setIfInBounds_toArray, List.set_cons_zero, List.set_cons_succ]
                      refine wpAnyH_take (i := 18) (oi := { dst := some 257, op := Op.move (Operand.tmp 24), type := 24, pos := "law.go:112", after := #[{ on := 14, ground := Ground.guard }], guard := some (14, true) }) (v := ?vr47x518) rfl (by kernel_rfl) (by kernel_rfl) (by kernel_rfl) (fun _ _ _ h => h) (Or.inl ⟨by rfl, ?hyr47x518⟩) hHeld ?_
                      case hyr47x518 => (intro w hSw; (try dsimp only at hSw); go_simp; (try with_reducible rfl))
                      try simp only [Act.put, List.setIfInBounds_toArray, List.set_cons_zero, List.set_cons_succ]
                      refine wpAnyH_take (i := 19) (oi := { dst := some 258, op := Op.indexAddr 24 (Operand.tmp 257) (Operand.const (Value.int IntKind.i64 1)), type := 0, pos := "law.go:112", after := #[{ on := 18, ground := Ground.data }, { on := 14, ground := Ground.guard }], guard := some (14, true) }) (v := ?vr47x519) rfl (by kernel_rfl) (by kernel_rfl) (by kernel_rfl) (fun _ _ _ h => h) (Or.inl ⟨by rfl, ?hyr47x519⟩) hHeld ?_
                      case hyr47x519 => (intro w hSw; (try dsimp only at hSw); go_simp; (try with_reducible rfl))
                      try simp only [Act.put, List.setIfInBounds_toArray, List.set_cons_zero, List.set_cons_succ]
                      refine wpAnyH_take (i := 20) (oi := { dst := some 259, op := Op.load 26 (Operand.tmp 258), type := 26, pos := "law.go:112", after := #[{ on := 19, ground := Ground.data }, { on := 14, ground := Ground.guard }], guard := some (14, true) }) (v := ?vr47x520) rfl (by kernel_rfl) (by kernel_rfl) (by kernel_rfl) (fun _ _ _ h => h) (Or.inl ⟨by rfl, ?hyr47x520⟩) hHeld ?_
                      case hyr47x520 => (intro w hSw; (try dsimp only at hSw); go_simp; (try with_reducible rfl))
                      try simp only [Act.put, List.setIfInBounds_toArray, List.set_cons_zero, List.set_cons_succ]
                      refine wpAnyH_take (i := 21) (oi := { dst := some 260, op := Op.binOp BinOp.neq 26 (Operand.tmp 256) (Operand.tmp 259) 26, type := 4, pos := "law.go:112", after := #[{ on := 17, ground := Ground.data }, { on := 20, ground := Ground.data }, { on := 14, ground := Ground.guard }], guard := some (14, true) }) (v := ?vr47x521) rfl (by kernel_rfl) (by kernel_rfl) (by kernel_rfl) (fun _ _ _ h => h) (Or.inl ⟨by rfl, ?hyr47x521⟩) hHeld ?_
                      case hyr47x521 => (intro w hSw; (try dsimp only at hSw); go_simp; (try with_reducible rfl))
                      try simp only [Act.put, List.setIfInBounds_toArray, List.set_cons_zero, List.set_cons_succ]
                      refine wpAnyH_take (i := 22) (oi := { dst := some 261, op := Op.pick (Operand.tmp 253) (Operand.tmp 260) (Operand.const (Value.bool false)), type := 4, pos := "law.go:112", after := #[{ on := 14, ground := Ground.data }, { on := 21, ground := Ground.data }], guard := none }) (v := ?vr47x522) rfl (by kernel_rfl) (by kernel_rfl) (by kernel_rfl) (fun _ _ _ h => h) (Or.inl ⟨by rfl, ?hyr47x522⟩) hHeld ?_
                      case hyr47x522 => (intro w hSw; (try dsimp only at hSw); go_simp; (try with_reducible rfl))
                      try simp only [Act.put, List.setIfInBounds_toArray, List.set_cons_zero, List.set_cons_succ]
                      refine wpAnyH_done (by kernel_rfl) ?_ _
                      clear hHeld wa wb wc za zb zc cl
                      have HF2 : Hid (wd1.drew.cell? ⟨bz, off + lo, none⟩ = some (.int .u64 da) ∧ wd1.drew.cell? ⟨bz, off + lo + 1, none⟩ = some (.int .u64 dd) ∧ wd1.drew.cell? ⟨bz, off + lo + 2, none⟩ = some (.int .u64 2) ∧ wd1.drew.cell? ⟨Z, lo, none⟩ = some (.int .u64 da) ∧ wd1.drew.cell? ⟨Z, lo + 1, none⟩ = some (.int .u64 dd) ∧ wd1.drew.cell? ⟨Z, lo + 2, none⟩ = some (.int .u64 0) ∧ wd1.drew.cell? ⟨g, k - 1, none⟩ = some (.int .i64 (t : Int))) := Lib.hid HF1.out
                      have HZ4 := Lib.hid HZ3.out.drew; have HI4 := Lib.hid HI3.out.drew
                      clear HZ3 HI3 HF1
                      have HZ3 := HZ4; have HI3 := HI4
                      clear HZ4 HI4
                      generalize wd1.drew = wd2 at *
                      clear HF2
                      go_wp2_with fail
                      go_roundw
                      case rel => exact ⟨i + 1, by go_num, by omega, HZ3, HI3⟩
                      case measure => simp [intOf]; omega
                  obtain ⟨r1, r2⟩ := cD h0 h2
                  subst r1 r2
                  have n0 : (dc == 0) = false := by simpa using h0
                  have n2 : (dc == 2) = false := by simpa using h2
                  have n3 : (dc != 0) = true := by simpa using h0
                  clear cW cB cD
                  by_cases hit : i = t
                  · clear h2
                    subst hit
                    have ne1 : ((i : Int) != (i : Int)) = false := by simp
                    clear cL
                    obtain ⟨wa, wb, wc, za, zb, zc, cl⟩ := HF0.out
                    go_wp2_with fail
                    refine wp_region_held_drew (S := (fun w' => w'.cell? ⟨bz, off + lo, none⟩ = some (.int .u64 da) ∧ w'.cell? ⟨bz, off + lo + 1, none⟩ = some (.int .u64 cd) ∧ w'.cell? ⟨bz, off + lo + 2, none⟩ = some (.int .u64 dc) ∧ w'.cell? ⟨Z, lo, none⟩ = some (.int .u64 da) ∧ w'.cell? ⟨Z, lo + 1, none⟩ = some (.int .u64 dd) ∧ w'.cell? ⟨Z, lo + 2, none⟩ = some (.int .u64 dc) ∧ w'.cell? ⟨g, k - 1, none⟩ = some (.int .i64 (i : Int)))) (by kernel_rfl) ?_ (fun hHeld => ?_)
                    · exact ⟨wa, wb, wc, za, zb, zc, cl⟩
                    refine wpAnyH_take (i := 0) (oi := { dst := some 196, op := Op.move (Operand.tmp 25), type := 24, pos := "law.go:108", after := #[], guard := none }) (v := ?vr39x60) rfl (by kernel_rfl) (by kernel_rfl) (by kernel_rfl) (fun _ _ _ h => h) (Or.inl ⟨by rfl, ?hyr39x60⟩) hHeld ?_
                    case hyr39x60 => (intro w hSw; (try dsimp only at hSw); go_simp; (try with_reducible rfl))
                    try simp only [Act.put, List.setIfInBounds_toArray, List.set_cons_zero, List.set_cons_succ]
                    refine wpAnyH_take (i := 1) (oi := { dst := some 197, op := Op.indexAddr 24 (Operand.tmp 196) (Operand.const (Value.int IntKind.i64 0)), type := 0, pos := "law.go:108", after := #[{ on := 0, ground := Ground.data }], guard := none }) (v := ?vr39x61) rfl (by kernel_rfl) (by kernel_rfl) (by kernel_rfl) (fun _ _ _ h => h) (Or.inl ⟨by rfl, ?hyr39x61⟩) hHeld ?_
                    case hyr39x61 => (intro w hSw; (try dsimp only at hSw); go_simp; (try with_reducible rfl))
                    try simp only [Act.put, List.setIfInBounds_toArray, List.set_cons_zero, List.set_cons_succ]
                    refine wpAnyH_take (i := 2) (oi := { dst := some 198, op := Op.load 26 (Operand.tmp 197), type := 26, pos := "law.go:108", after := #[{ on := 1, ground := Ground.data }], guard := none }) (v := ?vr39x62) rfl (by kernel_rfl) (by kernel_rfl) (by kernel_rfl) (fun _ _ _ h => h) (Or.inl ⟨by rfl, ?hyr39x62⟩) hHeld ?_
                    case hyr39x62 => (intro w hSw; (try dsimp only at hSw); go_simp; (try with_reducible rfl))
                    try simp only [Act.put, List.setIfInBounds_toArray, List.set_cons_zero, List.set_cons_succ]
                    refine wpAnyH_take (i := 3) (oi := { dst := some 199, op := Op.move (Operand.tmp 24), type := 24, pos := "law.go:108", after := #[], guard := none }) (v := ?vr39x63) rfl (by kernel_rfl) (by kernel_rfl) (by kernel_rfl) (fun _ _ _ h => h) (Or.inl ⟨by rfl, ?hyr39x63⟩) hHeld ?_
                    case hyr39x63 => (intro w hSw; (try dsimp only at hSw); go_simp; (try with_reducible rfl))
                    try simp only [Act.put, List.setIfInBounds_toArray, List.set_cons_zero, List.set_cons_succ]
                    refine wpAnyH_take (i := 4) (oi := { dst := some 200, op := Op.indexAddr 24 (Operand.tmp 199) (Operand.const (Value.int IntKind.i64 0)), type := 0, pos := "law.go:108", after := #[{ on := 3, ground := Ground.data }], guard := none }) (v := ?vr39x64) rfl (by kernel_rfl) (by kernel_rfl) (by kernel_rfl) (fun _ _ _ h => h) (Or.inl ⟨by rfl, ?hyr39x64⟩) hHeld ?_
                    case hyr39x64 => (intro w hSw; (try dsimp only at hSw); go_simp; (try with_reducible rfl))
                    try simp only [Act.put, List.setIfInBounds_toArray, List.set_cons_zero, List.set_cons_succ]
                    refine wpAnyH_take (i := 5) (oi := { dst := some 201, op := Op.load 26 (Operand.tmp 200), type := 26, pos := "law.go:108", after := #[{ on := 4, ground := Ground.data }], guard := none }) (v := ?vr39x65) rfl (by kernel_rfl) (by kernel_rfl) (by kernel_rfl) (fun _ _ _ h => h) (Or.inl ⟨by rfl, ?hyr39x65⟩) hHeld ?_
                    case hyr39x65 => (intro w hSw; (try dsimp only at hSw); go_simp; (try with_reducible rfl))
                    try simp only [Act.put, List.setIfInBounds_toArray, List.set_cons_zero, List.set_cons_succ]
                    refine wpAnyH_take (i := 6) (oi := { dst := some 202, op := Op.binOp BinOp.neq 26 (Operand.tmp 198) (Operand.tmp 201) 26, type := 4, pos := "law.go:108", after := #[{ on := 2, ground := Ground.data }, { on := 5, ground := Ground.data }], guard := none }) (v := ?vr39x66) rfl (by kernel_rfl) (by kernel_rfl) (by kernel_rfl) (fun _ _ _ h => h) (Or.inl ⟨by rfl, ?hyr39x66⟩) hHeld ?_
                    case hyr39x66 => (intro w hSw; (try dsimp only at hSw); go_simp; (try with_reducible rfl))
                    try simp only [Act.put, List.setIfInBounds_toArray, List.set_cons_zero, List.set_cons_succ]
                    refine wpAnyH_take (i := 7) (oi := { dst := some 203, op := Op.move (Operand.tmp 202), type := 4, pos := "law.go:108", after := #[{ on := 6, ground := Ground.data }], guard := none }) (v := ?vr39x67) rfl (by kernel_rfl) (by kernel_rfl) (by kernel_rfl) (fun _ _ _ h => h) (Or.inl ⟨by rfl, ?hyr39x67⟩) hHeld ?_
                    case hyr39x67 => (intro w hSw; (try dsimp only at hSw); go_simp; (try with_reducible rfl))
                    try simp only [Act.put, List.setIfInBounds_toArray, List.set_cons_zero, List.set_cons_succ]
                    refine wpAnyH_take (i := 8) (oi := { dst := some 204, op := Op.move (Operand.tmp 25), type := 24, pos := "law.go:108", after := #[{ on := 7, ground := Ground.guard }], guard := some (7, false) }) (v := ?vr39x68) rfl (by kernel_rfl) (by kernel_rfl) (by kernel_rfl) (fun _ _ _ h => h) (Or.inl ⟨by rfl, ?hyr39x68⟩) hHeld ?_
                    case hyr39x68 => (intro w hSw; (try dsimp only at hSw); go_simp; (try with_reducible rfl))
                    try simp only [Act.put, List.setIfInBounds_toArray, List.set_cons_zero, List.set_cons_succ]
                    refine wpAnyH_take (i := 9) (oi := { dst := some 205, op := Op.indexAddr 24 (Operand.tmp 204) (Operand.const (Value.int IntKind.i64 2)), type := 0, pos := "law.go:108", after := #[{ on := 8, ground := Ground.data }, { on := 7, ground := Ground.guard }], guard := some (7, false) }) (v := ?vr39x69) rfl (by kernel_rfl) (by kernel_rfl) (by kernel_rfl) (fun _ _ _ h => h) (Or.inl ⟨by rfl, ?hyr39x69⟩) hHeld ?_
                    case hyr39x69 => (intro w hSw; (try dsimp only at hSw); go_simp; (try with_reducible rfl))
                    try simp only [Act.put, List.setIfInBounds_toArray, List.set_cons_zero, List.set_cons_succ]
                    refine wpAnyH_take (i := 10) (oi := { dst := some 206, op := Op.load 26 (Operand.tmp 205), type := 26, pos := "law.go:108", after := #[{ on := 9, ground := Ground.data }, { on := 7, ground := Ground.guard }], guard := some (7, false) }) (v := ?vr39x610) rfl (by kernel_rfl) (by kernel_rfl) (by kernel_rfl) (fun _ _ _ h => h) (Or.inl ⟨by rfl, ?hyr39x610⟩) hHeld ?_
                    case hyr39x610 => (intro w hSw; (try dsimp only at hSw); go_simp; (try with_reducible rfl))
                    try simp only [Act.put, List.setIfInBounds_toArray, List.set_cons_zero, List.set_cons_succ]
                    refine wpAnyH_take (i := 11) (oi := { dst := some 207, op := Op.move (Operand.tmp 24), type := 24, pos := "law.go:108", after := #[{ on := 7, ground := Ground.guard }], guard := some (7, false) }) (v := ?vr39x611) rfl (by kernel_rfl) (by kernel_rfl) (by kernel_rfl) (fun _ _ _ h => h) (Or.inl ⟨by rfl, ?hyr39x611⟩) hHeld ?_
                    case hyr39x611 => (intro w hSw; (try dsimp only at hSw); go_simp; (try with_reducible rfl))
                    try simp only [Act.put, List.setIfInBounds_toArray, List.set_cons_zero, List.set_cons_succ]
                    refine wpAnyH_take (i := 12) (oi := { dst := some 208, op := Op.indexAddr 24 (Operand.tmp 207) (Operand.const (Value.int IntKind.i64 2)), type := 0, pos := "law.go:108", after := #[{ on := 11, ground := Ground.data }, { on := 7, ground := Ground.guard }], guard := some (7, false) }) (v := ?vr39x612) rfl (by kernel_rfl) (by kernel_rfl) (by kernel_rfl) (fun _ _ _ h => h) (Or.inl ⟨by rfl, ?hyr39x612⟩) hHeld ?_
                    case hyr39x612 => (intro w hSw; (try dsimp only at hSw); go_simp; (try with_reducible rfl))
                    try simp only [Act.put, List.setIfInBounds_toArray, List.set_cons_zero, List.set_cons_succ]
                    refine wpAnyH_take (i := 13) (oi := { dst := some 209, op := Op.load 26 (Operand.tmp 208), type := 26, pos := "law.go:108", after := #[{ on := 12, ground := Ground.data }, { on := 7, ground := Ground.guard }], guard := some (7, false) }) (v := ?vr39x613) rfl (by kernel_rfl) (by kernel_rfl) (by kernel_rfl) (fun _ _ _ h => h) (Or.inl ⟨by rfl, ?hyr39x613⟩) hHeld ?_
                    case hyr39x613 => (intro w hSw; (try dsimp only at hSw); go_simp; (try with_reducible rfl))
                    try simp only [Act.put, List.setIfInBounds_toArray, List.set_cons_zero, List.set_cons_succ]
                    refine wpAnyH_take (i := 14) (oi := { dst := some 210, op := Op.binOp BinOp.neq 26 (Operand.tmp 206) (Operand.tmp 209) 26, type := 4, pos := "law.go:108", after := #[{ on := 10, ground := Ground.data }, { on := 13, ground := Ground.data }, { on := 7, ground := Ground.guard }], guard := some (7, false) }) (v := ?vr39x614) rfl (by kernel_rfl) (by kernel_rfl) (by kernel_rfl) (fun _ _ _ h => h) (Or.inl ⟨by rfl, ?hyr39x614⟩) hHeld ?_
                    case hyr39x614 => (intro w hSw; (try dsimp only at hSw); go_simp; (try with_reducible rfl))
                    try simp only [Act.put, List.setIfInBounds_toArray, List.set_cons_zero, List.set_cons_succ]
                    refine wpAnyH_take (i := 15) (oi := { dst := some 211, op := Op.pick (Operand.tmp 203) (Operand.const (Value.bool true)) (Operand.tmp 210), type := 4, pos := "law.go:108", after := #[{ on := 7, ground := Ground.data }, { on := 14, ground := Ground.data }], guard := none }) (v := ?vr39x615) rfl (by kernel_rfl) (by kernel_rfl) (by kernel_rfl) (fun _ _ _ h => h) (Or.inl ⟨by rfl, ?hyr39x615⟩) hHeld ?_
                    case hyr39x615 => (intro w hSw; (try dsimp only at hSw); go_simp; (try with_reducible rfl))
                    try simp only [Act.put, List.setIfInBounds_toArray, List.set_cons_zero, List.set_cons_succ]
                    refine wpAnyH_done (by kernel_rfl) ?_ _
                    clear hHeld wa wb wc za zb zc cl
                    have HF1 : Hid (wd.drew.cell? ⟨bz, off + lo, none⟩ = some (.int .u64 da) ∧ wd.drew.cell? ⟨bz, off + lo + 1, none⟩ = some (.int .u64 cd) ∧ wd.drew.cell? ⟨bz, off + lo + 2, none⟩ = some (.int .u64 dc) ∧ wd.drew.cell? ⟨Z, lo, none⟩ = some (.int .u64 da) ∧ wd.drew.cell? ⟨Z, lo + 1, none⟩ = some (.int .u64 dd) ∧ wd.drew.cell? ⟨Z, lo + 2, none⟩ = some (.int .u64 dc) ∧ wd.drew.cell? ⟨g, k - 1, none⟩ = some (.int .i64 (i : Int))) := Lib.hid HF0.out
                    have HZ4 := Lib.hid HZ3.out.drew; have HI4 := Lib.hid HI3.out.drew
                    clear HZ3 HI3 HF0
                    have HZ3 := HZ4; have HI3 := HI4
                    clear HZ4 HI4
                    generalize wd.drew = wd1 at *
                    obtain ⟨wa, wb, wc, za, zb, zc, cl⟩ := HF1.out
                    go_wp2_with fail
                    refine wp_region_held_drew (S := (fun w' => w'.cell? ⟨bz, off + lo, none⟩ = some (.int .u64 da) ∧ w'.cell? ⟨bz, off + lo + 1, none⟩ = some (.int .u64 cd) ∧ w'.cell? ⟨bz, off + lo + 2, none⟩ = some (.int .u64 dc) ∧ w'.cell? ⟨Z, lo, none⟩ = some (.int .u64 da) ∧ w'.cell? ⟨Z, lo + 1, none⟩ = some (.int .u64 dd) ∧ w'.cell? ⟨Z, lo + 2, none⟩ = some (.int .u64 dc) ∧ w'.cell? ⟨g, k - 1, none⟩ = some (.int .i64 (i : Int)))) (by kernel_rfl) ?_ (fun hHeld => ?_)
                    · exact ⟨wa, wb, wc, za, zb, zc, cl⟩
                    refine wpAnyH_take (i := 0) (oi := { dst := some 239, op := Op.move (Operand.tmp 24), type := 24, pos := "law.go:112", after := #[], guard := none }) (v := ?vr47x70) rfl (by kernel_rfl) (by kernel_rfl) (by kernel_rfl) (fun _ _ _ h => h) (Or.inl ⟨by rfl, ?hyr47x70⟩) hHeld ?_
                    case hyr47x70 => (intro w hSw; (try dsimp only at hSw); go_simp; (try with_reducible rfl))
                    try simp only [Act.put, List.setIfInBounds_toArray, List.set_cons_zero, List.set_cons_succ]
                    refine wpAnyH_take (i := 1) (oi := { dst := some 240, op := Op.indexAddr 24 (Operand.tmp 239) (Operand.const (Value.int IntKind.i64 2)), type := 0, pos := "law.go:112", after := #[{ on := 0, ground := Ground.data }], guard := none }) (v := ?vr47x71) rfl (by kernel_rfl) (by kernel_rfl) (by kernel_rfl) (fun _ _ _ h => h) (Or.inl ⟨by rfl, ?hyr47x71⟩) hHeld ?_
                    case hyr47x71 => (intro w hSw; (try dsimp only at hSw); go_simp; (try with_reducible rfl))
                    try simp only [Act.put, List.setIfInBounds_toArray, List.set_cons_zero, List.set_cons_succ]
                    refine wpAnyH_take (i := 2) (oi := { dst := some 241, op := Op.load 26 (Operand.tmp 240), type := 26, pos := "law.go:112", after := #[{ on := 1, ground := Ground.data }], guard := none }) (v := ?vr47x72) rfl (by kernel_rfl) (by kernel_rfl) (by kernel_rfl) (fun _ _ _ h => h) (Or.inl ⟨by rfl, ?hyr47x72⟩) hHeld ?_
                    case hyr47x72 => (intro w hSw; (try dsimp only at hSw); go_simp; (try with_reducible rfl))
                    try simp only [Act.put, List.setIfInBounds_toArray, List.set_cons_zero, List.set_cons_succ]
                    refine wpAnyH_take (i := 3) (oi := { dst := some 242, op := Op.binOp BinOp.neq 26 (Operand.tmp 241) (Operand.const (Value.int IntKind.u64 0)) 26, type := 4, pos := "law.go:112", after := #[{ on := 2, ground := Ground.data }], guard := none }) (v := ?vr47x73) rfl (by kernel_rfl) (by kernel_rfl) (by kernel_rfl) (fun _ _ _ h => h) (Or.inl ⟨by rfl, ?hyr47x73⟩) hHeld ?_
                    case hyr47x73 => (intro w hSw; (try dsimp only at hSw); go_simp; (try with_reducible rfl))
                    try simp only [Act.put, List.setIfInBounds_toArray, List.set_cons_zero, List.set_cons_succ]
                    refine wpAnyH_take (i := 4) (oi := { dst := some 243, op := Op.move (Operand.tmp 242), type := 4, pos := "law.go:112", after := #[{ on := 3, ground := Ground.data }], guard := none }) (v := ?vr47x74) rfl (by kernel_rfl) (by kernel_rfl) (by kernel_rfl) (fun _ _ _ h => h) (Or.inl ⟨by rfl, ?hyr47x74⟩) hHeld ?_
                    case hyr47x74 => (intro w hSw; (try dsimp only at hSw); go_simp; (try with_reducible rfl))
                    try simp only [Act.put, List.setIfInBounds_toArray, List.set_cons_zero, List.set_cons_succ]
                    refine wpAnyH_take (i := 5) (oi := { dst := some 244, op := Op.move (Operand.tmp 23), type := 3, pos := "law.go:112", after := #[{ on := 4, ground := Ground.guard }], guard := some (4, true) }) (v := ?vr47x75) rfl (by kernel_rfl) (by kernel_rfl) (by kernel_rfl) (fun _ _ _ h => h) (Or.inl ⟨by rfl, ?hyr47x75⟩) hHeld ?_
                    case hyr47x75 => (intro w hSw; (try dsimp only at hSw); go_simp; (try with_reducible rfl))
                    try simp only [Act.put, List.setIfInBounds_toArray, List.set_cons_zero, List.set_cons_succ]
                    refine wpAnyH_take (i := 6) (oi := { dst := some 245, op := Op.move (Operand.tmp 8), type := 41, pos := "law.go:112", after := #[{ on := 4, ground := Ground.guard }], guard := some (4, true) }) (v := ?vr47x76) rfl (by kernel_rfl) (by kernel_rfl) (by kernel_rfl) (fun _ _ _ h => h) (Or.inl ⟨by rfl, ?hyr47x76⟩) hHeld ?_
                    case hyr47x76 => (intro w hSw; (try dsimp only at hSw); go_simp; (try with_reducible rfl))
                    try simp only [Act.put, List.setIfInBounds_toArray, List.set_cons_zero, List.set_cons_succ]
                    refine wpAnyH_take (i := 7) (oi := { dst := some 246, op := Op.move (Operand.tmp 8), type := 41, pos := "law.go:112", after := #[{ on := 4, ground := Ground.guard }], guard := some (4, true) }) (v := ?vr47x77) rfl (by kernel_rfl) (by kernel_rfl) (by kernel_rfl) (fun _ _ _ h => h) (Or.inl ⟨by rfl, ?hyr47x77⟩) hHeld ?_
                    case hyr47x77 => (intro w hSw; (try dsimp only at hSw); go_simp; (try with_reducible rfl))
                    try simp only [Act.put, List.setIfInBounds_toArray, List.set_cons_zero, List.set_cons_succ]
                    refine wpAnyH_take (i := 8) (oi := { dst := some 247, op := Op.call { callee := Callee.builtin Builtin.len, args := #[Operand.tmp 246], argTypes := #[41] }, type := 3, pos := "law.go:112", after := #[{ on := 7, ground := Ground.data }, { on := 4, ground := Ground.guard }], guard := some (4, true) }) (v := ?vr47x78) rfl (by kernel_rfl) (by kernel_rfl) (by kernel_rfl) (fun _ _ _ h => h) (Or.inl ⟨by rfl, ?hyr47x78⟩) hHeld ?_
                    case hyr47x78 => (intro w hSw; (try dsimp only at hSw); go_simp; (try with_reducible rfl))
                    try simp only [Act.put, List.setIfInBounds_toArray, List.set_cons_zero, List.set_cons_succ]
                    refine wpAnyH_take (i := 9) (oi := { dst := some 248, op := Op.binOp BinOp.sub 3 (Operand.tmp 247) (Operand.const (Value.int IntKind.i64 1)) 3, type := 3, pos := "law.go:112", after := #[{ on := 8, ground := Ground.data }, { on := 4, ground := Ground.guard }], guard := some (4, true) }) (v := ?vr47x79) rfl (by kernel_rfl) (by kernel_rfl) (by kernel_rfl) (fun _ _ _ h => h) (Or.inl ⟨by rfl, ?hyr47x79⟩) hHeld ?_
                    case hyr47x79 => (intro w hSw; (try dsimp only at hSw); go_simp; (try with_reducible rfl))
                    try simp only [Act.put, List.setIfInBounds_toArray, List.set_cons_zero, List.set_cons_succ]
                    refine wpAnyH_take (i := 10) (oi := { dst := some 249, op := Op.indexAddr 41 (Operand.tmp 245) (Operand.tmp 248), type := 0, pos := "law.go:112", after := #[{ on := 6, ground := Ground.data }, { on := 9, ground := Ground.data }, { on := 4, ground := Ground.guard }], guard := some (4, true) }) (v := ?vr47x710) rfl (by kernel_rfl) (by kernel_rfl) (by kernel_rfl) (fun _ _ _ h => h) (Or.inl ⟨by rfl, ?hyr47x710⟩) hHeld ?_
                    case hyr47x710 => (intro w hSw; (try dsimp only at hSw); go_simp; (try with_reducible rfl))
                    try simp only [Act.put, List.setIfInBounds_toArray, List.set_cons_zero, List.set_cons_succ]
                    refine wpAnyH_take (i := 11) (oi := { dst := some 250, op := Op.load 3 (Operand.tmp 249), type := 3, pos := "law.go:112", after := #[{ on := 10, ground := Ground.data }, { on := 4, ground := Ground.guard }], guard := some (4, true) }) (v := ?vr47x711) rfl (by kernel_rfl) (by kernel_rfl) (by kernel_rfl) (fun _ _ _ h => h) (Or.inl ⟨by rfl, ?hyr47x711⟩) hHeld ?_
                    case hyr47x711 => (intro w hSw; (try dsimp only at hSw); go_simp; (try with_reducible rfl))
                    try simp only [Act.put, List.setIfInBounds_toArray, List.set_cons_zero, List.set_cons_succ]
                    refine wpAnyH_take (i := 12) (oi := { dst := some 251, op := Op.binOp BinOp.neq 3 (Operand.tmp 244) (Operand.tmp 250) 3, type := 4, pos := "law.go:112", after := #[{ on := 5, ground := Ground.data }, { on := 11, ground := Ground.data }, { on := 4, ground := Ground.guard }], guard := some (4, true) }) (v := ?vr47x712) rfl (by kernel_rfl) (by kernel_rfl) (by kernel_rfl) (fun _ _ _ h => h) (Or.inl ⟨by rfl, ?hyr47x712⟩) hHeld ?_
                    case hyr47x712 => (intro w hSw; (try dsimp only at hSw); go_simp; (try with_reducible rfl))
                    try simp only [Act.put, List.setIfInBounds_toArray, List.set_cons_zero, List.set_cons_succ]
                    refine wpAnyH_take (i := 13) (oi := { dst := some 252, op := Op.pick (Operand.tmp 243) (Operand.tmp 251) (Operand.const (Value.bool false)), type := 4, pos := "law.go:112", after := #[{ on := 4, ground := Ground.data }, { on := 12, ground := Ground.data }], guard := none }) (v := ?vr47x713) rfl (by kernel_rfl) (by kernel_rfl) (by kernel_rfl) (fun _ _ _ h => h) (Or.inl ⟨by rfl, ?hyr47x713⟩) hHeld ?_
                    case hyr47x713 => (intro w hSw; (try dsimp only at hSw); go_simp; (try with_reducible rfl))
                    try simp only [Act.put, List.setIfInBounds_toArray, List.set_cons_zero, List.set_cons_succ]
                    refine wpAnyH_take (i := 14) (oi := { dst := some 253, op := Op.move (Operand.tmp 252), type := 4, pos := "law.go:112", after := #[{ on := 13, ground := Ground.data }, { on := 4, ground := Ground.chain }], guard := none }) (v := ?vr47x714) rfl (by kernel_rfl) (by kernel_rfl) (by kernel_rfl) (fun _ _ _ h => h) (Or.inl ⟨by rfl, ?hyr47x714⟩) hHeld ?_
                    case hyr47x714 => (intro w hSw; (try dsimp only at hSw); go_simp; (try with_reducible rfl))
                    try simp only [Act.put, List.setIfInBounds_toArray, List.set_cons_zero, List.set_cons_succ]
                    refine wpAnyH_take (i := 15) (oi := { dst := some 254, op := Op.move (Operand.tmp 25), type := 24, pos := "law.go:112", after := #[{ on := 14, ground := Ground.guard }], guard := some (14, true) }) (v := undef) rfl (by kernel_rfl) (by kernel_rfl) (by kernel_rfl) (fun _ _ _ h => h) (Or.inr ⟨by rfl, rfl⟩) hHeld ?_
                    try simp only [Act.put, List.setIfInBounds_toArray, List.set_cons_zero, List.set_cons_succ]
                    refine wpAnyH_take (i := 16) (oi := { dst := some 255, op := Op.indexAddr 24 (Operand.tmp 254) (Operand.const (Value.int IntKind.i64 1)), type := 0, pos := "law.go:112", after := #[{ on := 15, ground := Ground.data }, { on := 14, ground := Ground.guard }], guard := some (14, true) }) (v := undef) rfl (by kernel_rfl) (by kernel_rfl) (by kernel_rfl) (fun _ _ _ h => h) (Or.inr ⟨by rfl, rfl⟩) hHeld ?_
                    try simp only [Act.put, List.setIfInBounds_toArray, List.set_cons_zero, List.set_cons_succ]
                    refine wpAnyH_take (i := 17) (oi := { dst := some 256, op := Op.load 26 (Operand.tmp 255), type := 26, pos := "law.go:112", after := #[{ on := 16, ground := Ground.data }, { on := 14, ground := Ground.guard }], guard := some (14, true) }) (v := undef) rfl (by kernel_rfl) (by kernel_rfl) (by kernel_rfl) (fun _ _ _ h => h) (Or.inr ⟨by rfl, rfl⟩) hHeld ?_
                    try simp only [Act.put, List.setIfInBounds_toArray, List.set_cons_zero, List.set_cons_succ]
                    refine wpAnyH_take (i := 18) (oi := { dst := some 257, op := Op.move (Operand.tmp 24), type := 24, pos := "law.go:112", after := #[{ on := 14, ground := Ground.guard }], guard := some (14, true) }) (v := undef) rfl (by kernel_rfl) (by kernel_rfl) (by kernel_rfl) (fun _ _ _ h => h) (Or.inr ⟨by rfl, rfl⟩) hHeld ?_
                    try simp only [Act.put, List.setIfInBounds_toArray, List.set_cons_zero, List.set_cons_succ]
                    refine wpAnyH_take (i := 19) (oi := { dst := some 258, op := Op.indexAddr 24 (Operand.tmp 257) (Operand.const (Value.int IntKind.i64 1)), type := 0, pos := "law.go:112", after := #[{ on := 18, ground := Ground.data }, { on := 14, ground := Ground.guard }], guard := some (14, true) }) (v := undef) rfl (by kernel_rfl) (by kernel_rfl) (by kernel_rfl) (fun _ _ _ h => h) (Or.inr ⟨by rfl, rfl⟩) hHeld ?_
                    try simp only [Act.put, List.setIfInBounds_toArray, List.set_cons_zero, List.set_cons_succ]
                    refine wpAnyH_take (i := 20) (oi := { dst := some 259, op := Op.load 26 (Operand.tmp 258), type := 26, pos := "law.go:112", after := #[{ on := 19, ground := Ground.data }, { on := 14, ground := Ground.guard }], guard := some (14, true) }) (v := undef) rfl (by kernel_rfl) (by kernel_rfl) (by kernel_rfl) (fun _ _ _ h => h) (Or.inr ⟨by rfl, rfl⟩) hHeld ?_
                    try simp only [Act.put, List.setIfInBounds_toArray, List.set_cons_zero, List.set_cons_succ]
                    refine wpAnyH_take (i := 21) (oi := { dst := some 260, op := Op.binOp BinOp.neq 26 (Operand.tmp 256) (Operand.tmp 259) 26, type := 4, pos := "law.go:112", after := #[{ on := 17, ground := Ground.data }, { on := 20, ground := Ground.data }, { on := 14, ground := Ground.guard }], guard := some (14, true) }) (v := undef) rfl (by kernel_rfl) (by kernel_rfl) (by kernel_rfl) (fun _ _ _ h => h) (Or.inr ⟨by rfl, rfl⟩) hHeld ?_
                    try simp only [Act.put, List.setIfInBounds_toArray, List.set_cons_zero, List.set_cons_succ]
                    refine wpAnyH_take (i := 22) (oi := { dst := some 261, op := Op.pick (Operand.tmp 253) (Operand.tmp 260) (Operand.const (Value.bool false)), type := 4, pos := "law.go:112", after := #[{ on := 14, ground := Ground.data }, { on := 21, ground := Ground.data }], guard := none }) (v := ?vr47x722) rfl (by kernel_rfl) (by kernel_rfl) (by kernel_rfl) (fun _ _ _ h => h) (Or.inl ⟨by rfl, ?hyr47x722⟩) hHeld ?_
                    case hyr47x722 => (intro w hSw; (try dsimp only at hSw); go_simp; (try with_reducible rfl))
                    try simp only [Act.put, List.setIfInBounds_toArray, List.set_cons_zero, List.set_cons_succ]
                    refine wpAnyH_done (by kernel_rfl) ?_ _
                    clear hHeld wa wb wc za zb zc cl
                    have HF2 : Hid (wd1.drew.cell? ⟨bz, off + lo, none⟩ = some (.int .u64 da) ∧ wd1.drew.cell? ⟨bz, off + lo + 1, none⟩ = some (.int .u64 cd) ∧ wd1.drew.cell? ⟨bz, off + lo + 2, none⟩ = some (.int .u64 dc) ∧ wd1.drew.cell? ⟨Z, lo, none⟩ = some (.int .u64 da) ∧ wd1.drew.cell? ⟨Z, lo + 1, none⟩ = some (.int .u64 dd) ∧ wd1.drew.cell? ⟨Z, lo + 2, none⟩ = some (.int .u64 dc) ∧ wd1.drew.cell? ⟨g, k - 1, none⟩ = some (.int .i64 (i : Int))) := Lib.hid HF1.out
                    have HZ4 := Lib.hid HZ3.out.drew; have HI4 := Lib.hid HI3.out.drew
                    clear HZ3 HI3 HF1
                    have HZ3 := HZ4; have HI3 := HI4
                    clear HZ4 HI4
                    generalize wd1.drew = wd2 at *
                    clear HF2
                    go_wp2_with fail
                    go_roundw
                    case rel => exact ⟨i + 1, by go_num, by omega, HZ3, HI3⟩
                    case measure => simp [intOf]; omega
                  · clear h2
                    have ne1 : ((i : Int) != (t : Int)) = true := by simp; omega
                    obtain rfl := cL h0 hit
                    clear cL
                    obtain ⟨wa, wb, wc, za, zb, zc, cl⟩ := HF0.out
                    go_wp2_with fail
                    refine wp_region_held_drew (S := (fun w' => w'.cell? ⟨bz, off + lo, none⟩ = some (.int .u64 da) ∧ w'.cell? ⟨bz, off + lo + 1, none⟩ = some (.int .u64 dd) ∧ w'.cell? ⟨bz, off + lo + 2, none⟩ = some (.int .u64 dc) ∧ w'.cell? ⟨Z, lo, none⟩ = some (.int .u64 da) ∧ w'.cell? ⟨Z, lo + 1, none⟩ = some (.int .u64 dd) ∧ w'.cell? ⟨Z, lo + 2, none⟩ = some (.int .u64 dc) ∧ w'.cell? ⟨g, k - 1, none⟩ = some (.int .i64 (t : Int)))) (by kernel_rfl) ?_ (fun hHeld => ?_)
                    · exact ⟨wa, wb, wc, za, zb, zc, cl⟩
                    refine wpAnyH_take (i := 0) (oi := { dst := some 196, op := Op.move (Operand.tmp 25), type := 24, pos := "law.go:108", after := #[], guard := none }) (v := ?vr39x80) rfl (by kernel_rfl) (by kernel_rfl) (by kernel_rfl) (fun _ _ _ h => h) (Or.inl ⟨by rfl, ?hyr39x80⟩) hHeld ?_
                    case hyr39x80 => (intro w hSw; (try dsimp only at hSw); go_simp; (try with_reducible rfl))
                    try simp only [Act.put, List.setIfInBounds_toArray, List.set_cons_zero, List.set_cons_succ]
                    refine wpAnyH_take (i := 1) (oi := { dst := some 197, op := Op.indexAddr 24 (Operand.tmp 196) (Operand.const (Value.int IntKind.i64 0)), type := 0, pos := "law.go:108", after := #[{ on := 0, ground := Ground.data }], guard := none }) (v := ?vr39x81) rfl (by kernel_rfl) (by kernel_rfl) (by kernel_rfl) (fun _ _ _ h => h) (Or.inl ⟨by rfl, ?hyr39x81⟩) hHeld ?_
                    case hyr39x81 => (intro w hSw; (try dsimp only at hSw); go_simp; (try with_reducible rfl))
                    try simp only [Act.put, List.setIfInBounds_toArray, List.set_cons_zero, List.set_cons_succ]
                    refine wpAnyH_take (i := 2) (oi := { dst := some 198, op := Op.load 26 (Operand.tmp 197), type := 26, pos := "law.go:108", after := #[{ on := 1, ground := Ground.data }], guard := none }) (v := ?vr39x82) rfl (by kernel_rfl) (by kernel_rfl) (by kernel_rfl) (fun _ _ _ h => h) (Or.inl ⟨by rfl, ?hyr39x82⟩) hHeld ?_
                    case hyr39x82 => (intro w hSw; (try dsimp only at hSw); go_simp; (try with_reducible rfl))
                    try simp only [Act.put, List.setIfInBounds_toArray, List.set_cons_zero, List.set_cons_succ]
                    refine wpAnyH_take (i := 3) (oi := { dst := some 199, op := Op.move (Operand.tmp 24), type := 24, pos := "law.go:108", after := #[], guard := none }) (v := ?vr39x83) rfl (by kernel_rfl) (by kernel_rfl) (by kernel_rfl) (fun _ _ _ h => h) (Or.inl ⟨by rfl, ?hyr39x83⟩) hHeld ?_
                    case hyr39x83 => (intro w hSw; (try dsimp only at hSw); go_simp; (try with_reducible rfl))
                    try simp only [Act.put, List.setIfInBounds_toArray, List.set_cons_zero, List.set_cons_succ]
                    refine wpAnyH_take (i := 4) (oi := { dst := some 200, op := Op.indexAddr 24 (Operand.tmp 199) (Operand.const (Value.int IntKind.i64 0)), type := 0, pos := "law.go:108", after := #[{ on := 3, ground := Ground.data }], guard := none }) (v := ?vr39x84) rfl (by kernel_rfl) (by kernel_rfl) (by kernel_rfl) (fun _ _ _ h => h) (Or.inl ⟨by rfl, ?hyr39x84⟩) hHeld ?_
                    case hyr39x84 => (intro w hSw; (try dsimp only at hSw); go_simp; (try with_reducible rfl))
                    try simp only [Act.put, List.setIfInBounds_toArray, List.set_cons_zero, List.set_cons_succ]
                    refine wpAnyH_take (i := 5) (oi := { dst := some 201, op := Op.load 26 (Operand.tmp 200), type := 26, pos := "law.go:108", after := #[{ on := 4, ground := Ground.data }], guard := none }) (v := ?vr39x85) rfl (by kernel_rfl) (by kernel_rfl) (by kernel_rfl) (fun _ _ _ h => h) (Or.inl ⟨by rfl, ?hyr39x85⟩) hHeld ?_
                    case hyr39x85 => (intro w hSw; (try dsimp only at hSw); go_simp; (try with_reducible rfl))
                    try simp only [Act.put, List.setIfInBounds_toArray, List.set_cons_zero, List.set_cons_succ]
                    refine wpAnyH_take (i := 6) (oi := { dst := some 202, op := Op.binOp BinOp.neq 26 (Operand.tmp 198) (Operand.tmp 201) 26, type := 4, pos := "law.go:108", after := #[{ on := 2, ground := Ground.data }, { on := 5, ground := Ground.data }], guard := none }) (v := ?vr39x86) rfl (by kernel_rfl) (by kernel_rfl) (by kernel_rfl) (fun _ _ _ h => h) (Or.inl ⟨by rfl, ?hyr39x86⟩) hHeld ?_
                    case hyr39x86 => (intro w hSw; (try dsimp only at hSw); go_simp; (try with_reducible rfl))
                    try simp only [Act.put, List.setIfInBounds_toArray, List.set_cons_zero, List.set_cons_succ]
                    refine wpAnyH_take (i := 7) (oi := { dst := some 203, op := Op.move (Operand.tmp 202), type := 4, pos := "law.go:108", after := #[{ on := 6, ground := Ground.data }], guard := none }) (v := ?vr39x87) rfl (by kernel_rfl) (by kernel_rfl) (by kernel_rfl) (fun _ _ _ h => h) (Or.inl ⟨by rfl, ?hyr39x87⟩) hHeld ?_
                    case hyr39x87 => (intro w hSw; (try dsimp only at hSw); go_simp; (try with_reducible rfl))
                    try simp only [Act.put, List.setIfInBounds_toArray, List.set_cons_zero, List.set_cons_succ]
                    refine wpAnyH_take (i := 8) (oi := { dst := some 204, op := Op.move (Operand.tmp 25), type := 24, pos := "law.go:108", after := #[{ on := 7, ground := Ground.guard }], guard := some (7, false) }) (v := ?vr39x88) rfl (by kernel_rfl) (by kernel_rfl) (by kernel_rfl) (fun _ _ _ h => h) (Or.inl ⟨by rfl, ?hyr39x88⟩) hHeld ?_
                    case hyr39x88 => (intro w hSw; (try dsimp only at hSw); go_simp; (try with_reducible rfl))
                    try simp only [Act.put, List.setIfInBounds_toArray, List.set_cons_zero, List.set_cons_succ]
                    refine wpAnyH_take (i := 9) (oi := { dst := some 205, op := Op.indexAddr 24 (Operand.tmp 204) (Operand.const (Value.int IntKind.i64 2)), type := 0, pos := "law.go:108", after := #[{ on := 8, ground := Ground.data }, { on := 7, ground := Ground.guard }], guard := some (7, false) }) (v := ?vr39x89) rfl (by kernel_rfl) (by kernel_rfl) (by kernel_rfl) (fun _ _ _ h => h) (Or.inl ⟨by rfl, ?hyr39x89⟩) hHeld ?_
                    case hyr39x89 => (intro w hSw; (try dsimp only at hSw); go_simp; (try with_reducible rfl))
                    try simp only [Act.put, List.setIfInBounds_toArray, List.set_cons_zero, List.set_cons_succ]
                    refine wpAnyH_take (i := 10) (oi := { dst := some 206, op := Op.load 26 (Operand.tmp 205), type := 26, pos := "law.go:108", after := #[{ on := 9, ground := Ground.data }, { on := 7, ground := Ground.guard }], guard := some (7, false) }) (v := ?vr39x810) rfl (by kernel_rfl) (by kernel_rfl) (by kernel_rfl) (fun _ _ _ h => h) (Or.inl ⟨by rfl, ?hyr39x810⟩) hHeld ?_
                    case hyr39x810 => (intro w hSw; (try dsimp only at hSw); go_simp; (try with_reducible rfl))
                    try simp only [Act.put, List.setIfInBounds_toArray, List.set_cons_zero, List.set_cons_succ]
                    refine wpAnyH_take (i := 11) (oi := { dst := some 207, op := Op.move (Operand.tmp 24), type := 24, pos := "law.go:108", after := #[{ on := 7, ground := Ground.guard }], guard := some (7, false) }) (v := ?vr39x811) rfl (by kernel_rfl) (by kernel_rfl) (by kernel_rfl) (fun _ _ _ h => h) (Or.inl ⟨by rfl, ?hyr39x811⟩) hHeld ?_
                    case hyr39x811 => (intro w hSw; (try dsimp only at hSw); go_simp; (try with_reducible rfl))
                    try simp only [Act.put, List.setIfInBounds_toArray, List.set_cons_zero, List.set_cons_succ]
                    refine wpAnyH_take (i := 12) (oi := { dst := some 208, op := Op.indexAddr 24 (Operand.tmp 207) (Operand.const (Value.int IntKind.i64 2)), type := 0, pos := "law.go:108", after := #[{ on := 11, ground := Ground.data }, { on := 7, ground := Ground.guard }], guard := some (7, false) }) (v := ?vr39x812) rfl (by kernel_rfl) (by kernel_rfl) (by kernel_rfl) (fun _ _ _ h => h) (Or.inl ⟨by rfl, ?hyr39x812⟩) hHeld ?_
                    case hyr39x812 => (intro w hSw; (try dsimp only at hSw); go_simp; (try with_reducible rfl))
                    try simp only [Act.put, List.setIfInBounds_toArray, List.set_cons_zero, List.set_cons_succ]
                    refine wpAnyH_take (i := 13) (oi := { dst := some 209, op := Op.load 26 (Operand.tmp 208), type := 26, pos := "law.go:108", after := #[{ on := 12, ground := Ground.data }, { on := 7, ground := Ground.guard }], guard := some (7, false) }) (v := ?vr39x813) rfl (by kernel_rfl) (by kernel_rfl) (by kernel_rfl) (fun _ _ _ h => h) (Or.inl ⟨by rfl, ?hyr39x813⟩) hHeld ?_
                    case hyr39x813 => (intro w hSw; (try dsimp only at hSw); go_simp; (try with_reducible rfl))
                    try simp only [Act.put, List.setIfInBounds_toArray, List.set_cons_zero, List.set_cons_succ]
                    refine wpAnyH_take (i := 14) (oi := { dst := some 210, op := Op.binOp BinOp.neq 26 (Operand.tmp 206) (Operand.tmp 209) 26, type := 4, pos := "law.go:108", after := #[{ on := 10, ground := Ground.data }, { on := 13, ground := Ground.data }, { on := 7, ground := Ground.guard }], guard := some (7, false) }) (v := ?vr39x814) rfl (by kernel_rfl) (by kernel_rfl) (by kernel_rfl) (fun _ _ _ h => h) (Or.inl ⟨by rfl, ?hyr39x814⟩) hHeld ?_
                    case hyr39x814 => (intro w hSw; (try dsimp only at hSw); go_simp; (try with_reducible rfl))
                    try simp only [Act.put, List.setIfInBounds_toArray, List.set_cons_zero, List.set_cons_succ]
                    refine wpAnyH_take (i := 15) (oi := { dst := some 211, op := Op.pick (Operand.tmp 203) (Operand.const (Value.bool true)) (Operand.tmp 210), type := 4, pos := "law.go:108", after := #[{ on := 7, ground := Ground.data }, { on := 14, ground := Ground.data }], guard := none }) (v := ?vr39x815) rfl (by kernel_rfl) (by kernel_rfl) (by kernel_rfl) (fun _ _ _ h => h) (Or.inl ⟨by rfl, ?hyr39x815⟩) hHeld ?_
                    case hyr39x815 => (intro w hSw; (try dsimp only at hSw); go_simp; (try with_reducible rfl))
                    try simp only [Act.put, List.setIfInBounds_toArray, List.set_cons_zero, List.set_cons_succ]
                    refine wpAnyH_done (by kernel_rfl) ?_ _
                    clear hHeld wa wb wc za zb zc cl
                    have HF1 : Hid (wd.drew.cell? ⟨bz, off + lo, none⟩ = some (.int .u64 da) ∧ wd.drew.cell? ⟨bz, off + lo + 1, none⟩ = some (.int .u64 dd) ∧ wd.drew.cell? ⟨bz, off + lo + 2, none⟩ = some (.int .u64 dc) ∧ wd.drew.cell? ⟨Z, lo, none⟩ = some (.int .u64 da) ∧ wd.drew.cell? ⟨Z, lo + 1, none⟩ = some (.int .u64 dd) ∧ wd.drew.cell? ⟨Z, lo + 2, none⟩ = some (.int .u64 dc) ∧ wd.drew.cell? ⟨g, k - 1, none⟩ = some (.int .i64 (t : Int))) := Lib.hid HF0.out
                    have HZ4 := Lib.hid HZ3.out.drew; have HI4 := Lib.hid HI3.out.drew
                    clear HZ3 HI3 HF0
                    have HZ3 := HZ4; have HI3 := HI4
                    clear HZ4 HI4
                    generalize wd.drew = wd1 at *
                    obtain ⟨wa, wb, wc, za, zb, zc, cl⟩ := HF1.out
                    go_wp2_with fail
                    refine wp_region_held_drew (S := (fun w' => w'.cell? ⟨bz, off + lo, none⟩ = some (.int .u64 da) ∧ w'.cell? ⟨bz, off + lo + 1, none⟩ = some (.int .u64 dd) ∧ w'.cell? ⟨bz, off + lo + 2, none⟩ = some (.int .u64 dc) ∧ w'.cell? ⟨Z, lo, none⟩ = some (.int .u64 da) ∧ w'.cell? ⟨Z, lo + 1, none⟩ = some (.int .u64 dd) ∧ w'.cell? ⟨Z, lo + 2, none⟩ = some (.int .u64 dc) ∧ w'.cell? ⟨g, k - 1, none⟩ = some (.int .i64 (t : Int)))) (by kernel_rfl) ?_ (fun hHeld => ?_)
                    · exact ⟨wa, wb, wc, za, zb, zc, cl⟩
                    refine wpAnyH_take (i := 0) (oi := { dst := some 239, op := Op.move (Operand.tmp 24), type := 24, pos := "law.go:112", after := #[], guard := none }) (v := ?vr47x90) rfl (by kernel_rfl) (by kernel_rfl) (by kernel_rfl) (fun _ _ _ h => h) (Or.inl ⟨by rfl, ?hyr47x90⟩) hHeld ?_
                    case hyr47x90 => (intro w hSw; (try dsimp only at hSw); go_simp; (try with_reducible rfl))
                    try simp only [Act.put, List.setIfInBounds_toArray, List.set_cons_zero, List.set_cons_succ]
                    refine wpAnyH_take (i := 1) (oi := { dst := some 240, op := Op.indexAddr 24 (Operand.tmp 239) (Operand.const (Value.int IntKind.i64 2)), type := 0, pos := "law.go:112", after := #[{ on := 0, ground := Ground.data }], guard := none }) (v := ?vr47x91) rfl (by kernel_rfl) (by kernel_rfl) (by kernel_rfl) (fun _ _ _ h => h) (Or.inl ⟨by rfl, ?hyr47x91⟩) hHeld ?_
                    case hyr47x91 => (intro w hSw; (try dsimp only at hSw); go_simp; (try with_reducible rfl))
                    try simp only [Act.put, List.setIfInBounds_toArray, List.set_cons_zero, List.set_cons_succ]
                    refine wpAnyH_take (i := 2) (oi := { dst := some 241, op := Op.load 26 (Operand.tmp 240), type := 26, pos := "law.go:112", after := #[{ on := 1, ground := Ground.data }], guard := none }) (v := ?vr47x92) rfl (by kernel_rfl) (by kernel_rfl) (by kernel_rfl) (fun _ _ _ h => h) (Or.inl ⟨by rfl, ?hyr47x92⟩) hHeld ?_
                    case hyr47x92 => (intro w hSw; (try dsimp only at hSw); go_simp; (try with_reducible rfl))
                    try simp only [Act.put, List.setIfInBounds_toArray, List.set_cons_zero, List.set_cons_succ]
                    refine wpAnyH_take (i := 3) (oi := { dst := some 242, op := Op.binOp BinOp.neq 26 (Operand.tmp 241) (Operand.const (Value.int IntKind.u64 0)) 26, type := 4, pos := "law.go:112", after := #[{ on := 2, ground := Ground.data }], guard := none }) (v := ?vr47x93) rfl (by kernel_rfl) (by kernel_rfl) (by kernel_rfl) (fun _ _ _ h => h) (Or.inl ⟨by rfl, ?hyr47x93⟩) hHeld ?_
                    case hyr47x93 => (intro w hSw; (try dsimp only at hSw); go_simp; (try with_reducible rfl))
                    try simp only [Act.put, List.setIfInBounds_toArray, List.set_cons_zero, List.set_cons_succ]
                    refine wpAnyH_take (i := 4) (oi := { dst := some 243, op := Op.move (Operand.tmp 242), type := 4, pos := "law.go:112", after := #[{ on := 3, ground := Ground.data }], guard := none }) (v := ?vr47x94) rfl (by kernel_rfl) (by kernel_rfl) (by kernel_rfl) (fun _ _ _ h => h) (Or.inl ⟨by rfl, ?hyr47x94⟩) hHeld ?_
                    case hyr47x94 => (intro w hSw; (try dsimp only at hSw); go_simp; (try with_reducible rfl))
                    try simp only [Act.put, List.setIfInBounds_toArray, List.set_cons_zero, List.set_cons_succ]
                    refine wpAnyH_take (i := 5) (oi := { dst := some 244, op := Op.move (Operand.tmp 23), type := 3, pos := "law.go:112", after := #[{ on := 4, ground := Ground.guard }], guard := some (4, true) }) (v := ?vr47x95) rfl (by kernel_rfl) (by kernel_rfl) (by kernel_rfl) (fun _ _ _ h => h) (Or.inl ⟨by rfl, ?hyr47x95⟩) hHeld ?_
                    case hyr47x95 => (intro w hSw; (try dsimp only at hSw); go_simp; (try with_reducible rfl))
                    try simp only [Act.put, List.setIfInBounds_toArray, List.set_cons_zero, List.set_cons_succ]
                    refine wpAnyH_take (i := 6) (oi := { dst := some 245, op := Op.move (Operand.tmp 8), type := 41, pos := "law.go:112", after := #[{ on := 4, ground := Ground.guard }], guard := some (4, true) }) (v := ?vr47x96) rfl (by kernel_rfl) (by kernel_rfl) (by kernel_rfl) (fun _ _ _ h => h) (Or.inl ⟨by rfl, ?hyr47x96⟩) hHeld ?_
                    case hyr47x96 => (intro w hSw; (try dsimp only at hSw); go_simp; (try with_reducible rfl))
                    try simp only [Act.put, List.setIfInBounds_toArray, List.set_cons_zero, List.set_cons_succ]
                    refine wpAnyH_take (i := 7) (oi := { dst := some 246, op := Op.move (Operand.tmp 8), type := 41, pos := "law.go:112", after := #[{ on := 4, ground := Ground.guard }], guard := some (4, true) }) (v := ?vr47x97) rfl (by kernel_rfl) (by kernel_rfl) (by kernel_rfl) (fun _ _ _ h => h) (Or.inl ⟨by rfl, ?hyr47x97⟩) hHeld ?_
                    case hyr47x97 => (intro w hSw; (try dsimp only at hSw); go_simp; (try with_reducible rfl))
                    try simp only [Act.put, List.setIfInBounds_toArray, List.set_cons_zero, List.set_cons_succ]
                    refine wpAnyH_take (i := 8) (oi := { dst := some 247, op := Op.call { callee := Callee.builtin Builtin.len, args := #[Operand.tmp 246], argTypes := #[41] }, type := 3, pos := "law.go:112", after := #[{ on := 7, ground := Ground.data }, { on := 4, ground := Ground.guard }], guard := some (4, true) }) (v := ?vr47x98) rfl (by kernel_rfl) (by kernel_rfl) (by kernel_rfl) (fun _ _ _ h => h) (Or.inl ⟨by rfl, ?hyr47x98⟩) hHeld ?_
                    case hyr47x98 => (intro w hSw; (try dsimp only at hSw); go_simp; (try with_reducible rfl))
                    try simp only [Act.put, List.setIfInBounds_toArray, List.set_cons_zero, List.set_cons_succ]
                    refine wpAnyH_take (i := 9) (oi := { dst := some 248, op := Op.binOp BinOp.sub 3 (Operand.tmp 247) (Operand.const (Value.int IntKind.i64 1)) 3, type := 3, pos := "law.go:112", after := #[{ on := 8, ground := Ground.data }, { on := 4, ground := Ground.guard }], guard := some (4, true) }) (v := ?vr47x99) rfl (by kernel_rfl) (by kernel_rfl) (by kernel_rfl) (fun _ _ _ h => h) (Or.inl ⟨by rfl, ?hyr47x99⟩) hHeld ?_
                    case hyr47x99 => (intro w hSw; (try dsimp only at hSw); go_simp; (try with_reducible rfl))
                    try simp only [Act.put, List.setIfInBounds_toArray, List.set_cons_zero, List.set_cons_succ]
                    refine wpAnyH_take (i := 10) (oi := { dst := some 249, op := Op.indexAddr 41 (Operand.tmp 245) (Operand.tmp 248), type := 0, pos := "law.go:112", after := #[{ on := 6, ground := Ground.data }, { on := 9, ground := Ground.data }, { on := 4, ground := Ground.guard }], guard := some (4, true) }) (v := ?vr47x910) rfl (by kernel_rfl) (by kernel_rfl) (by kernel_rfl) (fun _ _ _ h => h) (Or.inl ⟨by rfl, ?hyr47x910⟩) hHeld ?_
                    case hyr47x910 => (intro w hSw; (try dsimp only at hSw); go_simp; (try with_reducible rfl))
                    try simp only [Act.put, List.setIfInBounds_toArray, List.set_cons_zero, List.set_cons_succ]
                    refine wpAnyH_take (i := 11) (oi := { dst := some 250, op := Op.load 3 (Operand.tmp 249), type := 3, pos := "law.go:112", after := #[{ on := 10, ground := Ground.data }, { on := 4, ground := Ground.guard }], guard := some (4, true) }) (v := ?vr47x911) rfl (by kernel_rfl) (by kernel_rfl) (by kernel_rfl) (fun _ _ _ h => h) (Or.inl ⟨by rfl, ?hyr47x911⟩) hHeld ?_
                    case hyr47x911 => (intro w hSw; (try dsimp only at hSw); go_simp; (try with_reducible rfl))
                    try simp only [Act.put, List.setIfInBounds_toArray, List.set_cons_zero, List.set_cons_succ]
                    refine wpAnyH_take (i := 12) (oi := { dst := some 251, op := Op.binOp BinOp.neq 3 (Operand.tmp 244) (Operand.tmp 250) 3, type := 4, pos := "law.go:112", after := #[{ on := 5, ground := Ground.data }, { on := 11, ground := Ground.data }, { on := 4, ground := Ground.guard }], guard := some (4, true) }) (v := ?vr47x912) rfl (by kernel_rfl) (by kernel_rfl) (by kernel_rfl) (fun _ _ _ h => h) (Or.inl ⟨by rfl, ?hyr47x912⟩) hHeld ?_
                    case hyr47x912 => (intro w hSw; (try dsimp only at hSw); go_simp; (try with_reducible rfl))
                    try simp only [Act.put, List.setIfInBounds_toArray, List.set_cons_zero, List.set_cons_succ]
                    refine wpAnyH_take (i := 13) (oi := { dst := some 252, op := Op.pick (Operand.tmp 243) (Operand.tmp 251) (Operand.const (Value.bool false)), type := 4, pos := "law.go:112", after := #[{ on := 4, ground := Ground.data }, { on := 12, ground := Ground.data }], guard := none }) (v := ?vr47x913) rfl (by kernel_rfl) (by kernel_rfl) (by kernel_rfl) (fun _ _ _ h => h) (Or.inl ⟨by rfl, ?hyr47x913⟩) hHeld ?_
                    case hyr47x913 => (intro w hSw; (try dsimp only at hSw); go_simp; (try with_reducible rfl))
                    try simp only [Act.put, List.setIfInBounds_toArray, List.set_cons_zero, List.set_cons_succ]
                    refine wpAnyH_take (i := 14) (oi := { dst := some 253, op := Op.move (Operand.tmp 252), type := 4, pos := "law.go:112", after := #[{ on := 13, ground := Ground.data }, { on := 4, ground := Ground.chain }], guard := none }) (v := ?vr47x914) rfl (by kernel_rfl) (by kernel_rfl) (by kernel_rfl) (fun _ _ _ h => h) (Or.inl ⟨by rfl, ?hyr47x914⟩) hHeld ?_
                    case hyr47x914 => (intro w hSw; (try dsimp only at hSw); go_simp; (try with_reducible rfl))
                    try simp only [Act.put, List.setIfInBounds_toArray, List.set_cons_zero, List.set_cons_succ]
                    refine wpAnyH_take (i := 15) (oi := { dst := some 254, op := Op.move (Operand.tmp 25), type := 24, pos := "law.go:112", after := #[{ on := 14, ground := Ground.guard }], guard := some (14, true) }) (v := ?vr47x915) rfl (by kernel_rfl) (by kernel_rfl) (by kernel_rfl) (fun _ _ _ h => h) (Or.inl ⟨by rfl, ?hyr47x915⟩) hHeld ?_
                    case hyr47x915 => (intro w hSw; (try dsimp only at hSw); go_simp; (try with_reducible rfl))
                    try simp only [Act.put, List.setIfInBounds_toArray, List.set_cons_zero, List.set_cons_succ]
                    refine wpAnyH_take (i := 16) (oi := { dst := some 255, op := Op.indexAddr 24 (Operand.tmp 254) (Operand.const (Value.int IntKind.i64 1)), type := 0, pos := "law.go:112", after := #[{ on := 15, ground := Ground.data }, { on := 14, ground := Ground.guard }], guard := some (14, true) }) (v := ?vr47x916) rfl (by kernel_rfl) (by kernel_rfl) (by kernel_rfl) (fun _ _ _ h => h) (Or.inl ⟨by rfl, ?hyr47x916⟩) hHeld ?_
                    case hyr47x916 => (intro w hSw; (try dsimp only at hSw); go_simp; (try with_reducible rfl))
                    try simp only [Act.put, List.setIfInBounds_toArray, List.set_cons_zero, List.set_cons_succ]
                    refine wpAnyH_take (i := 17) (oi := { dst := some 256, op := Op.load 26 (Operand.tmp 255), type := 26, pos := "law.go:112", after := #[{ on := 16, ground := Ground.data }, { on := 14, ground := Ground.guard }], guard := some (14, true) }) (v := ?vr47x917) rfl (by kernel_rfl) (by kernel_rfl) (by kernel_rfl) (fun _ _ _ h => h) (Or.inl ⟨by rfl, ?hyr47x917⟩) hHeld ?_
                    case hyr47x917 => (intro w hSw; (try dsimp only at hSw); go_simp; (try with_reducible rfl))
                    try simp only [Act.put, List.setIfInBounds_toArray, List.set_cons_zero, List.set_cons_succ]
                    refine wpAnyH_take (i := 18) (oi := { dst := some 257, op := Op.move (Operand.tmp 24), type := 24, pos := "law.go:112", after := #[{ on := 14, ground := Ground.guard }], guard := some (14, true) }) (v := ?vr47x918) rfl (by kernel_rfl) (by kernel_rfl) (by kernel_rfl) (fun _ _ _ h => h) (Or.inl ⟨by rfl, ?hyr47x918⟩) hHeld ?_
                    case hyr47x918 => (intro w hSw; (try dsimp only at hSw); go_simp; (try with_reducible rfl))
                    try simp only [Act.put, List.setIfInBounds_toArray, List.set_cons_zero, List.set_cons_succ]
                    refine wpAnyH_take (i := 19) (oi := { dst := some 258, op := Op.indexAddr 24 (Operand.tmp 257) (Operand.const (Value.int IntKind.i64 1)), type := 0, pos := "law.go:112", after := #[{ on := 18, ground := Ground.data }, { on := 14, ground := Ground.guard }], guard := some (14, true) }) (v := ?vr47x919) rfl (by kernel_rfl) (by kernel_rfl) (by kernel_rfl) (fun _ _ _ h => h) (Or.inl ⟨by rfl, ?hyr47x919⟩) hHeld ?_
                    case hyr47x919 => (intro w hSw; (try dsimp only at hSw); go_simp; (try with_reducible rfl))
                    try simp only [Act.put, List.setIfInBounds_toArray, List.set_cons_zero, List.set_cons_succ]
                    refine wpAnyH_take (i := 20) (oi := { dst := some 259, op := Op.load 26 (Operand.tmp 258), type := 26, pos := "law.go:112", after := #[{ on := 19, ground := Ground.data }, { on := 14, ground := Ground.guard }], guard := some (14, true) }) (v := ?vr47x920) rfl (by kernel_rfl) (by kernel_rfl) (by kernel_rfl) (fun _ _ _ h => h) (Or.inl ⟨by rfl, ?hyr47x920⟩) hHeld ?_
                    case hyr47x920 => (intro w hSw; (try dsimp only at hSw); go_simp; (try with_reducible rfl))
                    try simp only [Act.put, List.setIfInBounds_toArray, List.set_cons_zero, List.set_cons_succ]
                    refine wpAnyH_take (i := 21) (oi := { dst := some 260, op := Op.binOp BinOp.neq 26 (Operand.tmp 256) (Operand.tmp 259) 26, type := 4, pos := "law.go:112", after := #[{ on := 17, ground := Ground.data }, { on := 20, ground := Ground.data }, { on := 14, ground := Ground.guard }], guard := some (14, true) }) (v := ?vr47x921) rfl (by kernel_rfl) (by kernel_rfl) (by kernel_rfl) (fun _ _ _ h => h) (Or.inl ⟨by rfl, ?hyr47x921⟩) hHeld ?_
                    case hyr47x921 => (intro w hSw; (try dsimp only at hSw); go_simp; (try with_reducible rfl))
                    try simp only [Act.put, List.setIfInBounds_toArray, List.set_cons_zero, List.set_cons_succ]
                    refine wpAnyH_take (i := 22) (oi := { dst := some 261, op := Op.pick (Operand.tmp 253) (Operand.tmp 260) (Operand.const (Value.bool false)), type := 4, pos := "law.go:112", after := #[{ on := 14, ground := Ground.data }, { on := 21, ground := Ground.data }], guard := none }) (v := ?vr47x922) rfl (by kernel_rfl) (by kernel_rfl) (by kernel_rfl) (fun _ _ _ h => h) (Or.inl ⟨by rfl, ?hyr47x922⟩) hHeld ?_
                    case hyr47x922 => (intro w hSw; (try dsimp only at hSw); go_simp; (try with_reducible rfl))
                    try simp only [Act.put, List.setIfInBounds_toArray, List.set_cons_zero, List.set_cons_succ]
                    refine wpAnyH_done (by kernel_rfl) ?_ _
                    clear hHeld wa wb wc za zb zc cl
                    have HF2 : Hid (wd1.drew.cell? ⟨bz, off + lo, none⟩ = some (.int .u64 da) ∧ wd1.drew.cell? ⟨bz, off + lo + 1, none⟩ = some (.int .u64 dd) ∧ wd1.drew.cell? ⟨bz, off + lo + 2, none⟩ = some (.int .u64 dc) ∧ wd1.drew.cell? ⟨Z, lo, none⟩ = some (.int .u64 da) ∧ wd1.drew.cell? ⟨Z, lo + 1, none⟩ = some (.int .u64 dd) ∧ wd1.drew.cell? ⟨Z, lo + 2, none⟩ = some (.int .u64 dc) ∧ wd1.drew.cell? ⟨g, k - 1, none⟩ = some (.int .i64 (t : Int))) := Lib.hid HF1.out
                    have HZ4 := Lib.hid HZ3.out.drew; have HI4 := Lib.hid HI3.out.drew
                    clear HZ3 HI3 HF1
                    have HZ3 := HZ4; have HI3 := HI4
                    clear HZ4 HI4
                    generalize wd1.drew = wd2 at *
                    clear HF2
                    go_wp2_with fail
                    go_roundw
                    case rel => exact ⟨i + 1, by go_num, by omega, HZ3, HI3⟩
                    case measure => simp [intOf]; omega
                · obtain rfl : N = i := by omega
                  obtain ⟨x0, x1, x2, x3⟩ := HZ.out.box
                  dsimp only at x0 x1 x2 x3
                  go_wp2_with fail
                  go_ret
                  exact ⟨rfl, HZ.out.old⟩
end Go.Proofs.YtganbjgkobmdkaaDoor
