/- CollectorCycles answers true. -/
import Derived.Test.YthdcapkchjamoaaDoorM13
import Derived.Test.YthdcapkchjamoaaDoorM16
import Derived.Test.YthdcapkchjamoaaDoorColReached
import Derived.Test.YthdcapkchjamoaaDoorTwo
namespace Go.Proofs.YthdcapkchjamoaaDoor
open Go Go.RowKit
set_option maxRecDepth 100000
attribute [local go_sem ↓] Go.wp_at_zero Go.wp_at_succ

set_option maxHeartbeats 12800000 in
theorem cycles_any (a b c d : Int) (v0 : Option Addr) (n c0 : Nat) (f : Nat → Int) (hcap : n ≤ c0) (w : World) (hS : SpansAt w) (hG : Given w v0 n c0 f) :
    Calls Tryd.prog 3 #[.agg #[.int .i64 a, .int .i64 b, .int .i64 c, .int .i64 d], .slice v0 n c0] w fun e w' => e = .returned (.bool true) ∧ Below w.heap.size w w' := by
  have HB0 := Lib.hid (below_new w (.cells #[.int .i64 a, .int .i64 b, .int .i64 c, .int .i64 d] 23))
  have HX0 := Lib.hid (BoxAt.new w a b c d 23)
  have HS := Lib.hid hS; have HG := Lib.hid hG
  clear hS hG
  obtain ⟨x0, x1, x2, x3⟩ := HX0.out
  go_enter Tryd.func3, Tryd.ntmps3
  go_wp2_with fail
  refine (awake19_c _ (HS.out.below HB0.out)).mono ?_
  rintro e W1 ⟨rfl, hW⟩
  have HB1 := Lib.hid (belowOn HB0.out hW)
  have HX1 := Lib.hid (HX0.out.below hW)
  clear hW HB0 HX0 x0 x1 x2 x3
  obtain ⟨x0, x1, x2, x3⟩ := HX1.out
  go_wp2_with fail
  refine (Both_any a b c d v0 n c0 f _ (HS.out.below HB1.out) ⟨HG.out.1, HG.out.2.1.below HB1.out, HG.out.2.2⟩).mono ?_
  rintro e W2 (⟨_, rfl, hW⟩ | ⟨hok, P, rfl, hT⟩)
  · have HB2 := Lib.hid (belowOn HB1.out hW); have HX2 := Lib.hid (HX1.out.below hW)
    have HL : Hid (∀ W, WordsAt W v0 n f → Calls Tryd.prog 6 #[.agg #[.int .i64 a, .int .i64 b, .int .i64 c, .int .i64 d], .slice v0 n c0] W fun e w' => ∃ r, ListPost W r e w') := Lib.hid (fun W h => rlist_any a b c d v0 n c0 f HG.out.2.2.1 W h)
    clear hW HX1 HB1 x0 x1 x2 x3
    obtain ⟨x0, x1, x2, x3⟩ := HX2.out
    go_wp2_with fail
    refine (HL.out _ (HG.out.2.1.below HB2.out)).mono ?_
    rintro e W3 ⟨r, vv, rfl, _, hW⟩
    have HB3 := Lib.hid (belowOn HB2.out hW)
    generalize r.isSome = rb at *
    clear hW HB2 HX2 HL x0 x1 x2 x3
    go_wp2_with fail
    go_ret
    exact ⟨rfl, HB3.out⟩
  have hC : CfOK ⟨n, a, b, c, d⟩ := ⟨hok.2.1, hok.2.2⟩
  have HU : Hid (∀ j, U64 (f j)) := Lib.hid HG.out.2.2.1
  have hn20 : n ≤ 20000 := by have := hok.2.1.prod; have h1 := hok.2.2; have h2 := hok.2.1; unfold Right at h2; omega
  have HK := Lib.hid hC; have HR := Lib.hid hok.2.1
  have hn0 : 0 < n := hC.pos
  have HS1 := Lib.hid (HS.out.below HB1.out)
  have HW1 := Lib.hid (HG.out.2.1.below HB1.out)
  have HLi : Hid (∀ W f' va c1, (∀ j, U64 (f' j)) → WordsAt W va n f' → Calls Tryd.prog 6 #[.agg #[.int .i64 a, .int .i64 b, .int .i64 c, .int .i64 d], .slice va n c1] W (ListPost W (listF (nxF b c d f') a.toNat (f' 0)))) := Lib.hid (fun W f' va c1 h1 h2 => rlist_right a b c d hok.2.1 va n c1 f' hok.2.2 h1 W h2)
  have lH : W1.heap.size ≤ P.H := hT.both.lH
  have lG : W1.heap.size ≤ P.G := hT.both.lG
  have hH := hT.hand
  have hold := hT.old
  generalize P.H = H at *
  generalize P.A = A at *
  generalize P.G = G at *
  generalize P.X = X at *
  have HH := Lib.hid hH; have HO := Lib.hid hold
  have ha4 : 2 ≤ a ∧ a ≤ 4096 := by have := HK.out.a4; exact ⟨this.1, this.2.1⟩
  clear hT hok hC HG HS hH hold P x0 x1 x2 x3
  obtain ⟨N, rfl⟩ : ∃ N : Nat, a = (N : Int) := ⟨a.toNat, by omega⟩
  rw [Int.toNat_natCast] at HLi
  obtain ⟨x0, x1, x2, x3⟩ := HX1.out.below HO.out
  go_wp2_with fail
  refine (HLi.out _ f v0 c0 HU.out (HW1.out.below HO.out)).mono ?_
  rintro e W3 ⟨vv, rfl, hrow, hW⟩
  have HO3 := Lib.hid (belowOn HO.out hW); have HH3 := Lib.hid (HH.out.below hW)
  have hgH : H < W2.heap.size := HH.out.lt
  have hgA : A < W2.heap.size := HH.out.ar.lt
  have hgG : G < W2.heap.size := HH.out.ar.row.lt
  clear hW HO HH x0 x1 x2 x3
  generalize hls : listF (nxF b c d f) N (f 0) = r at *
  cases r with
  | none =>
    clear hrow
    have HE := Lib.hid (belowOn HB1.out HO3.out)
    clear HO3 HH3
    go_wp2_with fail
    go_ret
    exact ⟨rfl, HE.out⟩
  | some L =>
    simp only [Option.getD_some, Option.isSome_some] at hrow ⊢
    obtain ⟨hch, hLn⟩ := listF_some.1 hls
    obtain ⟨va, vc, rfl, hI, hlt, hz, _⟩ := IntsAt.own hrow
    obtain ⟨g, rfl⟩ : ∃ g, va = some ⟨g, 0, none⟩ := by
      rcases hz with h | h
      · rcases hI with q | ⟨_, _, q, _⟩
        · exact absurd q hLn
        · rw [h] at q; cases q
      · exact h
    have hgl := hlt g rfl
    have hLa : L.length ≤ N := nodup_le hch.nodup (fun i hi => hch.lt hi)
    have hL0 : 0 < L.length := List.length_pos_iff.2 hLn
    have HLt : Hid (∀ i ∈ L, i < N) := Lib.hid (fun i hi => hch.lt hi)
    have HCh := Lib.hid hch
    have HI := Lib.hid hI
    obtain ⟨ll, hll⟩ : ∃ ll, L.length = ll := ⟨_, rfl⟩
    rw [hll] at hLa hL0 ⊢
    have HLl := Lib.hid hll
    clear hll hch hI hlt hz hrow hls hLn
    obtain ⟨base, hbase⟩ : ∃ base : Nat, 5 + b + d + b * c = (base : Int) := ⟨(5 + b + d + b * c).toNat, by have := HR.out.prod; have h2 := HR.out; unfold Right at h2; omega⟩
    have hsz := HK.out.size
    dsimp only at hsz
    have hbn : (n : Int) - 3 * (N : Int) = (base : Int) := by omega
    have hbN : base + 3 * N = n := by omega
    have HBs := Lib.hid hbase
    have hwa : IntKind.i64.wrap (3 * (N : Int)) = 3 * (N : Int) := IntWalk.i64_in _ (by omega)
    have hwb : IntKind.i64.wrap ((n : Int) - 3 * (N : Int)) = (base : Int) := by rw [hbn]; exact IntWalk.i64_in _ (by omega)
    obtain ⟨bz, off, rfl, _⟩ := HW1.out.at' hn0
    have hsz2 := HK.out.size
    dsimp only at hsz2
    have hmk := make_bools N (by omega)
    have HT4 := Lib.hid (PhW.first (C := ⟨n, N, b, c, d⟩) (s := ⟨f, 0, 0, 0, 0, 0⟩) (N := N) HO3.out HH3.out HI.out hgl.2 lH lG ⟨by omega, by omega⟩)
    obtain ⟨x0, x1, x2, x3⟩ := HX1.out.below HO3.out
    (try dsimp only at x0 x1 x2 x3)
    clear hsz hbn hbase hsz2
    go_wp2_with fail
    clear x0 x1 x2 x3 hwa hwb hmk HH3
    generalize W3.alloc (.cells (madeCells #[.bool false] N) 4) = W4 at *
    generalize W3.heap.size = Y at *
    go_loopw [12] (fun iv wr => ∃ k : Nat, iv = .int .i64 k ∧ k ≤ N ∧ Hid (PhW W1 wr H A G g Y N ⟨n, N, b, c, d⟩ ⟨f, 0, 0, 0, 0, 0⟩ L (fun j => if j < k then (f (colI ⟨n, N, b, c, d⟩ j) == 1) else false)) ∧ Hid (∀ j, j < k → f (colI ⟨n, N, b, c, d⟩ j) = 0 ∨ f (colI ⟨n, N, b, c, d⟩ j) = 1)) (fun iv _ => N - (intOf iv).toNat)
    case atStart => exact ⟨0, rfl, by omega, HT4, Lib.hid (fun i hi => absurd hi (by omega))⟩
    case round =>
      clear HT4
      obtain ⟨k, rfl, hk, HT, HN⟩ := hrel
      by_cases hkl : k < N
      · have hq := (part_at HK.out (i := k) (by dsimp only; omega)).1
        dsimp only at hq
        rw [HBs.out] at hq
        obtain ⟨q, hqq⟩ : ∃ q, colI ⟨n, N, b, c, d⟩ k = q := ⟨_, rfl⟩
        rw [hqq] at hq
        have hqn : q < n := by omega
        have cq : wr.cell? ⟨bz, off + q, none⟩ = some (.int .u64 (f q)) := by
          obtain ⟨b', off', e, h⟩ := (HW1.out.below HT.out.old).at' hqn
          obtain ⟨rfl, rfl⟩ : bz = b' ∧ off = off' := by simpa using e
          exact h
        have w1 : IntKind.i64.wrap (3 * (k : Int)) = 3 * (k : Int) := IntWalk.i64_in _ (by omega)
        have w2 : IntKind.i64.wrap ((base : Int) + 3 * (k : Int)) = (base : Int) + 3 * (k : Int) := IntWalk.i64_in _ (by omega)
        have w3 : IntKind.i64.wrap ((base : Int) + 3 * (k : Int) + 2) = (q : Int) := by rw [← hq]; exact IntWalk.i64_in _ (by omega)
        have hk0 : (0 : Int) ≤ (k : Int) := by omega
        have hkI : (k : Int) < (N : Int) := by omega
        have hq0 : (0 : Int) ≤ (q : Int) := by omega
        have hqI : (q : Int) < (n : Int) := by omega
        have hk1 : IntKind.i64.wrap ((k : Int) + 1) = (k : Int) + 1 := IntWalk.i64_in _ (by omega)
        have hU := (HU.out q).1
        obtain ⟨x0, x1, x2, x3⟩ := HX1.out.below HT.out.old
        (try dsimp only at x0 x1 x2 x3)
        by_cases hf : 1 < f q
        · have HE := Lib.hid (belowOn HB1.out HT.out.old)
          generalize f q = fq at *
          clear hq hqq HN HT hU
          go_wp2_with fail
          go_ret
          exact ⟨rfl, HE.out⟩
        · have hle : decide (1 < f q) = false := decide_eq_false hf
          have HN2 : Hid (∀ j, j < k + 1 → f (colI ⟨n, N, b, c, d⟩ j) = 0 ∨ f (colI ⟨n, N, b, c, d⟩ j) = 1) := Lib.hid (fun j hj => by
            by_cases e : j = k
            · subst e; rw [hqq]; omega
            · exact HN.out j (by omega))
          have co := HT.out.grey.cell hkl
          have cf := HT.out.grey.frozen k
          have HT2 : Hid (PhW W1 (wr.setCell ⟨Y, k, none⟩ (.bool (f q == 1))) H A G g Y N ⟨n, N, b, c, d⟩ ⟨f, 0, 0, 0, 0, 0⟩ L (fun j => if j < k + 1 then (f (colI ⟨n, N, b, c, d⟩ j) == 1) else false)) := Lib.hid (HT.out.set k _ (fun j _ => by
            by_cases e : j = k
            · subst e; rw [if_pos rfl, if_pos (by omega), hqq]
            · rw [if_neg e]; by_cases e2 : j < k
              · rw [if_pos e2, if_pos (by omega)]
              · rw [if_neg e2, if_neg (by omega)]))
          rw [if_neg (Nat.lt_irrefl k)] at co
          generalize f q = fq at *
          clear hf hq hqq HN hU HT
          go_wp2_with fail
          go_roundw
          case rel => exact ⟨k + 1, by go_num, by omega, HT2, HN2⟩
          case measure => simp [intOf]; omega
      obtain rfl : N = k := by omega
      clear hkl hk
      obtain ⟨bn, rfl⟩ : ∃ bn : Nat, b = (bn : Int) := ⟨b.toNat, by have := HK.out.a4; dsimp only at this; omega⟩
      have hb5 : 5 + bn ≤ base := by have h := HBs.out; have := HR.out.prod; have h2 := HR.out; unfold Right at h2; omega
      have HCo := HN; clear HN
      obtain ⟨x0, x1, x2, x3⟩ := HX1.out.below HT.out.old
      (try dsimp only at x0 x1 x2 x3)
      go_wp2_with fail
      clear x0 x1 x2 x3
      have hTw : Hid (∃ W : World, W = wr) := Lib.hid ⟨_, rfl⟩
      clear hTw
      generalize hW5 : wr = W5 at *
      clear hW5
      go_loopw [13] (fun iv wr => ∃ m : Nat, iv = .int .i64 m ∧ m ≤ bn ∧ Hid (wr = W5) ∧ Hid (∀ j, j < m → f (5 + j) = 0)) (fun iv _ => bn - (intOf iv).toNat)
      case atStart => exact ⟨0, rfl, by omega, Lib.hid rfl, Lib.hid (fun i hi => absurd hi (by omega))⟩
      case round =>
        obtain ⟨m, rfl, hm, hwr, HN⟩ := hrel
        obtain rfl := hwr.out
        by_cases hmb : m < bn
        · obtain ⟨q, hq⟩ : ∃ q, 5 + m = q := ⟨_, rfl⟩
          have hqn : q < n := by omega
          have cq : wr.cell? ⟨bz, off + q, none⟩ = some (.int .u64 (f q)) := by
            obtain ⟨b', off', e, h⟩ := (HW1.out.below HT.out.old).at' hqn
            obtain ⟨rfl, rfl⟩ : bz = b' ∧ off = off' := by simpa using e
            exact h
          have w1 : IntKind.i64.wrap (5 + (m : Int)) = (q : Int) := by rw [IntWalk.i64_in _ (by omega)]; omega
          have hmI : (m : Int) < (bn : Int) := by omega
          have hq0 : (0 : Int) ≤ (q : Int) := by omega
          have hqI : (q : Int) < (n : Int) := by omega
          have hk1 : IntKind.i64.wrap ((m : Int) + 1) = (m : Int) + 1 := IntWalk.i64_in _ (by omega)
          obtain ⟨x0, x1, x2, x3⟩ := HX1.out.below HT.out.old
          (try dsimp only at x0 x1 x2 x3)
          by_cases hf : f q = 0
          · have HN2 : Hid (∀ j, j < m + 1 → f (5 + j) = 0) := Lib.hid (fun j hj => by
              by_cases e : j = m
              · subst e; rw [hq]; exact hf
              · exact HN.out j (by omega))
            rw [hf] at cq
            clear hq hf HN
            go_wp2_with fail
            go_roundw
            case rel => exact ⟨m + 1, by go_num, by omega, Lib.hid (by first | trivial | rfl), HN2⟩
            case measure => simp [intOf]; omega
          · have hne : (f q != 0) = true := by simpa using hf
            have HE := Lib.hid (belowOn HB1.out HT.out.old)
            generalize f q = fq at *
            clear hq hf HN HT
            go_wp2_with fail
            go_ret
            exact ⟨rfl, HE.out⟩
        obtain rfl : bn = m := by omega
        clear hwr hmb hm
        have HId := HN; clear HN
        obtain ⟨t, ht⟩ : ∃ t, L.getD (ll - 1) 0 = t := ⟨_, rfl⟩
        have htl : L.getLast? = some t := by
          rw [List.getLast?_eq_getElem?, HLl.out, ← ht, List.getD_eq_getElem?_getD, List.getElem?_eq_getElem (by rw [HLl.out]; omega)]; rfl
        have HTl := Lib.hid htl
        clear htl
        have htN : t < N := by rw [← ht]; exact HLt.out _ (by rw [List.getD_eq_getElem?_getD, List.getElem?_eq_getElem (by rw [HLl.out]; omega)]; exact List.getElem_mem _)
        have HOk : Hid (CyOK ⟨n, N, bn, c, d⟩ f L t) := Lib.hid ⟨HK.out, HU.out, by rw [Int.toNat_natCast]; exact HCh.out, HTl.out, fun i hi => HCo.out i (by dsimp only at hi; omega), fun j hj => HId.out j (by dsimp only at hj; omega)⟩
        have HBg : Hid (∀ W, Calls Tryd.prog 7 #[.agg #[.int .i64 (N : Int), .int .i64 (bn : Int), .int .i64 c, .int .i64 d]] W fun e w' => e = .returned (colV 1 0 0 0 0 0 false ((N : Int) - 1) 0) ∧ Below W.heap.size W w') := Lib.hid (fun W => Begin19_c (N : Int) (bn : Int) c d (by omega) W)
        obtain ⟨x0, x1, x2, x3⟩ := HX1.out.below HT.out.old
        (try dsimp only at x0 x1 x2 x3)
        go_wp2_with fail
        refine (HBg.out _).mono ?_
        rintro e W6 ⟨rfl, hb⟩
        have HT6 := Lib.hid (HT.out.below hb)
        clear hb HT HBg x0 x1 x2 x3
        have ct : W6.cell? ⟨g, ll - 1, none⟩ = some (.int .i64 (t : Int)) := by
          obtain ⟨b', off', e, h⟩ := HT6.out.list.at' (j := ll - 1) (by rw [HLl.out]; omega)
          obtain ⟨rfl, rfl⟩ : g = b' ∧ 0 = off' := by simpa using e
          rw [Nat.zero_add, ht] at h
          exact h
        have hw1 : IntKind.i64.wrap ((ll : Int) - 1) = ((ll - 1 : Nat) : Int) := by rw [IntWalk.i64_in _ (by omega)]; omega
        have hk0 : (0 : Int) ≤ ((ll - 1 : Nat) : Int) := by omega
        have hkI : ((ll - 1 : Nat) : Int) < (ll : Int) := by omega
        have hgl6 := HT6.out.gl
        have hgn6 : g ≠ W6.heap.size := by omega
        go_wp2_with fail
        clear ct hw1 hk0 hkI hgl6 hgn6 ht
        have HC7 := Lib.hid (PhC.first HT6.out ⟨1, 0, 0, 0, 0, 0, false, (t : Int), 0⟩)
        have hgB : g ≠ W6.heap.size := by have := HT6.out.gl; omega
        have hgHG : g ≠ H ∧ g ≠ G := HT6.out.ng
        clear HT6
        generalize W6.alloc (.cells #[.int .i64 1, .int .i64 0, .int .i64 0, .int .i64 0, .int .u64 0, .int .u64 0, .bool false, .int .i64 (t : Int), .int .i64 0] 37) = W7 at *
        generalize W6.heap.size = B at *
        obtain ⟨dn, rfl⟩ : ∃ dn : Nat, d = (dn : Int) := ⟨d.toNat, by have := HK.out.a4; dsimp only at this; omega⟩
        obtain ⟨bc, hbc⟩ : ∃ bc : Nat, (bn : Int) * c = (bc : Int) := ⟨((bn : Int) * c).toNat, by have := HR.out.prod; omega⟩
        have hbc0 : 0 < dn + bc := by have h := HR.out.prod; have h2 := HR.out; unfold Right at h2; omega
        have hbase5 : 5 + bn + dn + bc = base := by have := HBs.out; rw [hbc] at this; omega
        have hbase20 : base ≤ 20000 := by omega
        obtain ⟨RL, hRL⟩ : ∃ RL, rootsL bn dn bc f = RL := ⟨_, rfl⟩
        have HRm : Hid (∀ w, RootS ⟨n, N, bn, c, dn⟩ f w ↔ w ∈ RL) := Lib.hid (fun w => by rw [← hRL]; exact rootsL_mem HK.out rfl rfl hbc f w)
        have HRu : Hid (∀ x ∈ RL, U64 x) := Lib.hid (fun x hx => by rw [← hRL] at hx; unfold rootsL at hx; rcases List.mem_cons.1 hx with h | h; (rw [h]; exact HU.out 0); (obtain ⟨j, _, e⟩ := List.mem_map.1 h; rw [← e]; exact HU.out _))
        have hRn : RL ≠ [] := by rw [← hRL]; unfold rootsL; simp
        have hRl : RL.length ≤ 20000 := by rw [← hRL]; unfold rootsL; simp; omega
        have HRo : Hid (∀ W, WordsAt W (some ⟨bz, off, none⟩) n f → Calls Tryd.prog 9 #[.agg #[.int .i64 (N : Int), .int .i64 (bn : Int), .int .i64 c, .int .i64 (dn : Int)], .slice (some ⟨bz, off, none⟩) n c0] W (WdsPost W RL)) := Lib.hid (fun W h => by rw [← hRL]; exact rRoots19_c (N : Int) (bn : Int) c (dn : Int) rfl hbase5 hbc0 (by omega) (by omega) hn20 hcap W h)
        have HRe : Hid (∀ W ar c1 M, (∀ x ∈ M, U64 x) → M ≠ [] → M.length ≤ 40000 → WordsAt W (some ⟨bz, off, none⟩) n f → WdsAt W ar M → Calls Tryd.prog 8 #[.agg #[.int .i64 (N : Int), .int .i64 (bn : Int), .int .i64 c, .int .i64 (dn : Int)], .slice (some ⟨bz, off, none⟩) n c0, .slice ar M.length c1] W fun e w' => ∃ O o, e = .returned (.slice (some ⟨O, 0, none⟩) N N) ∧ W.heap.size ≤ O ∧ BoolAt w' O N o ∧ (∀ i, o i = true ↔ Rch ⟨n, N, bn, c, dn⟩ f (fun x => x ∈ M) i) ∧ Below W.heap.size W w') := Lib.hid (fun W ar c1 M h1 h2 h3 h4 h5 => rReached_c N (bn : Int) c (dn : Int) HK.out HU.out h1 h2 h3 W h4 h5)
        clear hRL hbase5
        have hB7 : Hid (∀ W, CkW W1 W H A G B ⟨n, N, bn, c, dn⟩ ⟨f, 0, 0, 0, 0, 0⟩ ⟨1, 0, 0, 0, 0, 0, false, (t : Int), 0⟩ → WordsAt W (some ⟨bz, off, none⟩) n f ∧ BoxAt W w.heap.size (N : Int) (bn : Int) c (dn : Int)) := Lib.hid (fun W h => ⟨HW1.out.below h.old, HX1.out.below h.old⟩)
        have HC8 : Hid (PhC W1 W7.drew _ _ _ _ _ _ _ _ _ _ _ _) := Lib.hid (HC7.out.below (Below.refl _ _).drew)
        clear HC7
        obtain ⟨x0, x1, x2, x3⟩ := (hB7.out _ HC8.out.ck).2
        (try dsimp only at x0 x1 x2 x3)
        go_region_held3 ((fun w' => w'.cell? ⟨w.heap.size, 0, none⟩ = some (.int .i64 (N : Int)) ∧ w'.cell? ⟨w.heap.size, 1, none⟩ = some (.int .i64 (bn : Int)) ∧ w'.cell? ⟨w.heap.size, 2, none⟩ = some (.int .i64 c) ∧ w'.cell? ⟨w.heap.size, 3, none⟩ = some (.int .i64 (dn : Int)))) (exact ⟨x0, x1, x2, x3⟩)
          (first
            | (go_at_call 9
               refine (HRo.out _ (hB7.out _ HC8.out.ck).1).mono ?_
               rintro e V ⟨vr, rfl, hrow, hb⟩
               obtain ⟨ar, cr, rfl, hAr, _, _⟩ := WdsAt.own hrow
               have HAr := Lib.hid hAr
               clear hAr hrow
               have HC9 := Lib.hid (HC8.out.below hb)
               clear HC8 hb x0 x1 x2 x3
               have HC8 := HC9
               clear HC9
               obtain ⟨x0, x1, x2, x3⟩ := (hB7.out _ HC8.out.ck).2
               (try dsimp only at x0 x1 x2 x3))
            | (go_at_call 8
               refine (HRe.out _ ar cr RL HRu.out hRn (by omega) (hB7.out _ HC8.out.ck).1 HAr.out).mono ?_
               rintro e V2 ⟨P, o1, rfl, hPl, hP, hPe, hb⟩
               have HP := Lib.hid hP; have HPe := Lib.hid hPe
               have hPn : B < P ∧ g < P ∧ H < P ∧ G < P := by have h1 := HC8.out.ck.col.lt; have h2 := HC8.out.gl; have h3 := HC8.out.ck.hand.lt; have h4 := HC8.out.ck.hand.ar.row.lt; omega
               clear hP hPe HAr hPl
               have HC9 := Lib.hid (HC8.out.below hb)
               clear HC8 hb x0 x1 x2 x3
               have HC8 := HC9
               clear HC9
               obtain ⟨x0, x1, x2, x3⟩ := (hB7.out _ HC8.out.ck).2
               (try dsimp only at x0 x1 x2 x3)))
        go_wp2_with fail
        clear x0 x1 x2 x3
        have HG0 : Hid (V2.ownsRow V2.heap.size 35 1 (.slice none 0 0) (grL ⟨n, N, bn, c, dn⟩ f 0).length (wdsV (grL ⟨n, N, bn, c, dn⟩ f 0))) := Lib.hid (World.ownsRow_nil _ _ _ _)
        have HB2 : Hid (Below V2.heap.size V2 V2) := Lib.hid (Below.refl _ _)
        obtain ⟨i0, hi, hz0, hz1, hz2⟩ := info_parts infoWord
        go_loopw [16, 17] (fun gv iv wr => ∃ k : Nat, iv = .int .i64 k ∧ k ≤ N ∧ Hid (Below V2.heap.size V2 wr) ∧ Hid (wr.ownsRow V2.heap.size 35 1 gv (grL ⟨n, N, bn, c, dn⟩ f k).length (wdsV (grL ⟨n, N, bn, c, dn⟩ f k)))) (fun _ iv _ => N - (intOf iv).toNat)
        case atStart => exact ⟨0, rfl, by omega, HB2, HG0⟩
        case round =>
          clear HB2 HG0
          obtain ⟨k, rfl, hk, HB2, HG⟩ := hrel
          by_cases hkN : k < N
          · have HC := Lib.hid (HC8.out.below HB2.out)
            have co := HC.out.grey.cell hkN
            rw [if_pos hkN] at co
            have hk0 : (0 : Int) ≤ (k : Int) := by omega
            have hkI : (k : Int) < (N : Int) := by omega
            have hk1 : IntKind.i64.wrap ((k : Int) + 1) = (k : Int) + 1 := IntWalk.i64_in _ (by omega)
            have hgl := grL_len ⟨n, N, bn, c, dn⟩ f k
            obtain ⟨x0, x1, x2, x3⟩ := (hB7.out _ HC.out.ck).2
            (try dsimp only at x0 x1 x2 x3)
            by_cases hf : f (colI ⟨n, N, bn, c, dn⟩ k) = 1
            · have hfe : (f (colI ⟨n, N, bn, c, dn⟩ k) == 1) = true := by simpa using hf
              rw [hfe] at co
              have hnx : grL ⟨n, N, bn, c, dn⟩ f (k + 1) = grL ⟨n, N, bn, c, dn⟩ f k ++ [2 * (k : Int) + 1] := by show (if _ then _ else _) = _; rw [if_pos hf]
              have w1 : IntKind.i64.wrap (2 * (k : Int)) = 2 * (k : Int) := IntWalk.i64_in _ (by omega)
              have w2 : IntKind.i64.wrap (2 * (k : Int) + 1) = 2 * (k : Int) + 1 := IntWalk.i64_in _ (by omega)
              have w3 : IntKind.u64.wrap (2 * (k : Int) + 1) = 2 * (k : Int) + 1 := IntWalk.u64_in _ (by omega)
              clear hfe hf HC
              generalize grL ⟨n, N, bn, c, dn⟩ f k = gk' at *
              go_wp2_with (at_builtin; go_loud (refine wpList_append_lies _ (by rfl) _ _ _ (by rfl) V2.heap.size 35 i0 _ 1 8 Tryd.underlying24 hi hz0 hz1 hz2 rfl (by omega) _ gk'.length _ (by rfl) (HG.out.alloc _) ⟨wr.heap.size, 0, none⟩ 1 1 [.int .u64 (2 * (k : Int) + 1)] (by rfl) (by rfl) (World.news_of_block (cs := #[.int .u64 (2 * (k : Int) + 1)]) (t := 35) (fr := (0, 0)) (heap_alloc_new wr _)) (by simp [Value.oneCell']) (by omega) (by unfold maxLen; omega) (by omega) (by have := HB2.out.size; simp; omega) (wr.heap.size + 1) (by simp) ?_; intro gg cap w2' hown1 hgrow hat hlt2; have HB3 : Hid (Below V2.heap.size V2 w2') := Lib.hid ((HB2.out.alloc HB2.out.size _).grown hgrow (by have := HB2.out.size; simp; omega) (fun j e => (HG.out.lt j e).1)); have HG3 : Hid (w2'.ownsRow V2.heap.size 35 1 (.slice (some ⟨gg, 0, none⟩) (gk'.length + 1) cap) (gk' ++ [2 * (k : Int) + 1]).length (wdsV (gk' ++ [2 * (k : Int) + 1]))) := Lib.hid (by rw [wdsV_append, List.length_append]; exact hown1); clear x0 x1 x2 x3 co hown1 hgrow; obtain ⟨x0, x1, x2, x3⟩ := (hB7.out _ (HC8.out.below HB3.out).ck).2))
              clear hat hlt2 HG HB2 x0 x1 x2 x3
              go_roundw
              case rel => exact ⟨k + 1, by go_num, by omega, HB3, by rw [hnx]; exact HG3⟩
              case measure => simp [intOf]; omega
            · have hfe : (f (colI ⟨n, N, bn, c, dn⟩ k) == 1) = false := by simpa using hf
              rw [hfe] at co
              have hnx : grL ⟨n, N, bn, c, dn⟩ f (k + 1) = grL ⟨n, N, bn, c, dn⟩ f k := by show (if _ then _ else _) = _; rw [if_neg hf]
              clear hfe hf HC
              go_wp2_with fail
              go_roundw
              case rel => exact ⟨k + 1, by go_num, by omega, HB2, by rw [hnx]; exact HG⟩
              case measure => simp [intOf]; omega
          obtain rfl : N = k := by omega
          clear hkN hk
          have HKp : Hid (∀ i, Rch ⟨n, N, bn, c, dn⟩ f (fun x => x ∈ grL ⟨n, N, bn, c, dn⟩ f N ++ RL) i ↔ Rch ⟨n, N, bn, c, dn⟩ f (KeptS ⟨n, N, bn, c, dn⟩ f) i) := Lib.hid (fun i => grL_kept rfl HRm.out i)
          have HGu : Hid (∀ x ∈ grL ⟨n, N, bn, c, dn⟩ f N ++ RL, U64 x) := Lib.hid (fun x hx => by rcases List.mem_append.1 hx with h | h; (obtain ⟨i, h1, _, h3⟩ := (grL_mem _ _ _ _).1 h; rw [h3]; unfold U64; omega); exact HRu.out x h)
          have hgl := grL_len ⟨n, N, bn, c, dn⟩ f N
          generalize grL ⟨n, N, bn, c, dn⟩ f N = GL at *
          obtain ⟨GM, hGM⟩ : ∃ GM, GL ++ RL = GM := ⟨_, rfl⟩
          have hGn : GM ≠ [] := by rw [← hGM]; simp [hRn]
          have hGl : GM.length ≤ 40000 := by rw [← hGM, List.length_append]; omega
          have HGm : Hid (GM.length = GL.length + RL.length ∧ wdsV GM = wdsV GL ++ wdsV RL) := Lib.hid (by rw [← hGM]; exact ⟨List.length_append, wdsV_append _ _⟩)
          rw [hGM] at HKp HGu
          clear hGM
          have HB3 : Hid (Below V2.heap.size V2 wr.drew) := Lib.hid HB2.out.drew
          have HG0 := Lib.hid (ownsRow_below4 HG.out (Below.refl wr.heap.size wr).drew)
          clear HG
          have HG := HG0
          clear HG0
          obtain ⟨x0, x1, x2, x3⟩ := (hB7.out _ (HC8.out.below HB2.out).ck).2
          (try dsimp only at x0 x1 x2 x3)
          go_wp2_with fail
          clear HB2
          refine wp_region_held_drew (S := (fun w' => w'.cell? ⟨w.heap.size, 0, none⟩ = some (.int .i64 (N : Int)) ∧ w'.cell? ⟨w.heap.size, 1, none⟩ = some (.int .i64 (bn : Int)) ∧ w'.cell? ⟨w.heap.size, 2, none⟩ = some (.int .i64 c) ∧ w'.cell? ⟨w.heap.size, 3, none⟩ = some (.int .i64 (dn : Int)))) (by kernel_rfl) ?_ (fun hHeld => ?_)
          · exact ⟨x0, x1, x2, x3⟩
          refine wpAnyH_take (i := 0) (oi := { dst := some 136, op := Op.load 23 (Operand.tmp 2), type := 23, pos := "law.go:103", after := #[], guard := none }) (v := ?vk0) rfl (by kernel_rfl) (by kernel_rfl) (by kernel_rfl) (fun _ _ _ h => h) (Or.inl ⟨by rfl, ?hyk0⟩) hHeld ?_
          case hyk0 => (intro w hSw; (try dsimp only at hSw); go_simp; (try with_reducible rfl))
          try simp only [Act.put, List.setIfInBounds_toArray, List.set_cons_zero, List.set_cons_succ]
          refine wpAnyH_take (i := 1) (oi := { dst := some 137, op := Op.move (Operand.tmp 1), type := 24, pos := "law.go:103", after := #[], guard := none }) (v := ?vk1) rfl (by kernel_rfl) (by kernel_rfl) (by kernel_rfl) (fun _ _ _ h => h) (Or.inl ⟨by rfl, ?hyk1⟩) hHeld ?_
          case hyk1 => (intro w hSw; (try dsimp only at hSw); go_simp; (try with_reducible rfl))
          try simp only [Act.put, List.setIfInBounds_toArray, List.set_cons_zero, List.set_cons_succ]
          refine wpAnyH_take (i := 2) (oi := { dst := some 138, op := Op.move (Operand.tmp 16), type := 24, pos := "law.go:103", after := #[], guard := none }) (v := ?vk2) rfl (by kernel_rfl) (by kernel_rfl) (by kernel_rfl) (fun _ _ _ h => h) (Or.inl ⟨by rfl, ?hyk2⟩) hHeld ?_
          case hyk2 => (intro w hSw; (try dsimp only at hSw); go_simp; (try with_reducible rfl))
          try simp only [Act.put, List.setIfInBounds_toArray, List.set_cons_zero, List.set_cons_succ]
          refine wpAnyH_take (i := 3) (oi := { dst := some 139, op := Op.load 23 (Operand.tmp 2), type := 23, pos := "law.go:103", after := #[], guard := none }) (v := ?vk3) rfl (by kernel_rfl) (by kernel_rfl) (by kernel_rfl) (fun _ _ _ h => h) (Or.inl ⟨by rfl, ?hyk3⟩) hHeld ?_
          case hyk3 => (intro w hSw; (try dsimp only at hSw); go_simp; (try with_reducible rfl))
          try simp only [Act.put, List.setIfInBounds_toArray, List.set_cons_zero, List.set_cons_succ]
          refine wpAnyH_take (i := 4) (oi := { dst := some 140, op := Op.move (Operand.tmp 1), type := 24, pos := "law.go:103", after := #[], guard := none }) (v := ?vk4) rfl (by kernel_rfl) (by kernel_rfl) (by kernel_rfl) (fun _ _ _ h => h) (Or.inl ⟨by rfl, ?hyk4⟩) hHeld ?_
          case hyk4 => (intro w hSw; (try dsimp only at hSw); go_simp; (try with_reducible rfl))
          try simp only [Act.put, List.setIfInBounds_toArray, List.set_cons_zero, List.set_cons_succ]
          refine wpAnyH_ready (rs := [5]) (by kernel_rfl) (by simp) ?_
          refine AllReadyH.cons (o := { dst := some 141, op := Op.call { callee := Callee.value (Operand.func 9), args := #[Operand.tmp 139, Operand.tmp 140], argTypes := #[23, 24] }, type := 24, pos := "law.go:103", after := #[{ on := 3, ground := Ground.data }, { on := 4, ground := Ground.data }], guard := none }) rfl (fun K hK => ?_) AllReadyH.nil
          go_simp
          clear hHeld
          refine (HRo.out _ (hB7.out _ (HC8.out.below HB3.out).ck).1).mono ?_
          rintro e V3 ⟨vr, rfl, hrow, hb⟩
          obtain ⟨ar, cr, rfl, hAr, har, _⟩ := WdsAt.own hrow
          obtain ⟨ad, rfl⟩ : ∃ ad, ar = some ad := by rcases har with h | ⟨g', h, _⟩; (exfalso; rcases hAr with q | ⟨_, _, q, _⟩; exact hRn q; rw [h] at q; cases q); exact ⟨_, h⟩
          have HAr := Lib.hid hAr
          have HG3 := Lib.hid (ownsRow_below4 HG.out hb)
          have HB4 : Hid (Below V2.heap.size V2 V3) := Lib.hid (belowOn HB3.out hb)
          clear HB3 hAr har hrow hb HG HRo
          have HB3 := HB4; have HG := HG3
          clear HB4 HG3
          clear x0 x1 x2 x3
          obtain ⟨x0, x1, x2, x3⟩ := (hB7.out _ (HC8.out.below HB3.out).ck).2
          (try dsimp only at x0 x1 x2 x3)
          refine hK.out _ _ ?_ (fun hHeld => ?_)
          · exact ⟨x0, x1, x2, x3⟩
          clear hK K
          try simp only [Act.put, List.setIfInBounds_toArray, List.set_cons_zero, List.set_cons_succ]
          refine wpAnyH_ready (rs := [6]) (by kernel_rfl) (by simp) ?_
          refine AllReadyH.cons (o := { dst := some 142, op := Op.call { callee := Callee.builtin Builtin.append, args := #[Operand.tmp 138, Operand.tmp 141], argTypes := #[24, 24] }, type := 24, pos := "law.go:103", after := #[{ on := 2, ground := Ground.data }, { on := 5, ground := Ground.data }, { on := 5, ground := Ground.chain }], guard := none }) rfl (fun K hK => ?_) AllReadyH.nil
          refine step_append_own (by rfl) _ _ _ (by rfl) V2.heap.size 35 i0 (.int .u64 0) 1 8 Tryd.underlying24 hi hz0 hz1 hz2 rfl (by decide) _ GL.length (wdsV GL) (by rfl) HG.out ad RL.length cr (wdsV RL) (by rfl) (by rw [wdsV_length]; omega) (HAr.out.news hRn) wdsV_one (by unfold maxLen; omega) (by omega) HB3.out.size ?_
          clear hHeld
          intro v3 w3 hown1 hgrow _
          have HG3 : Hid (w3.ownsRow V2.heap.size 35 1 v3 GM.length (wdsV GM)) := Lib.hid (by rw [HGm.out.1, HGm.out.2]; exact hown1)
          have HB4 : Hid (Below V2.heap.size V2 w3) := Lib.hid (HB3.out.grown hgrow HB3.out.size (fun j e => (HG.out.lt j e).1))
          clear HB3 HG hown1 hgrow HAr
          have HB3 := HB4; have HG := HG3
          clear HB4 HG3
          obtain ⟨ag, cg, rfl, hAg, _, _⟩ := WdsAt.own HG.out
          have HAg := Lib.hid hAg
          clear hAg HG
          clear x0 x1 x2 x3
          obtain ⟨x0, x1, x2, x3⟩ := (hB7.out _ (HC8.out.below HB3.out).ck).2
          (try dsimp only at x0 x1 x2 x3)
          refine hK.out _ _ ?_ (fun hHeld => ?_)
          · exact ⟨x0, x1, x2, x3⟩
          clear hK K
          try simp only [Act.put, List.setIfInBounds_toArray, List.set_cons_zero, List.set_cons_succ]
          refine wpAnyH_ready (rs := [7]) (by kernel_rfl) (by simp) ?_
          refine AllReadyH.cons (o := { dst := some 143, op := Op.call { callee := Callee.value (Operand.func 8), args := #[Operand.tmp 136, Operand.tmp 137, Operand.tmp 142], argTypes := #[23, 24, 24] }, type := 33, pos := "law.go:103", after := #[{ on := 0, ground := Ground.data }, { on := 1, ground := Ground.data }, { on := 6, ground := Ground.data }, { on := 6, ground := Ground.chain }], guard := none }) rfl (fun K hK => ?_) AllReadyH.nil
          go_simp
          clear hHeld
          refine (HRe.out _ ag cg GM HGu.out hGn hGl (hB7.out _ (HC8.out.below HB3.out).ck).1 HAg.out).mono ?_
          rintro e V4 ⟨Q, o2, rfl, hQl, hQ, hQe, hb⟩
          have HQ := Lib.hid hQ; have HQe := Lib.hid (fun i => (hQe i).trans (HKp.out i))
          have hQn : B < Q ∧ g < Q ∧ H < Q ∧ G < Q ∧ P < Q := by have h0 := HB3.out.size; have h1 := HC8.out.ck.col.lt; have h2 := HC8.out.gl; have h3 := HC8.out.ck.hand.lt; have h4 := HC8.out.ck.hand.ar.row.lt; have h5 := HP.out.lt; omega
          have HB4 : Hid (Below V2.heap.size V2 V4) := Lib.hid (belowOn HB3.out hb)
          clear HB3 hQl hQ hQe hb HAg HRe
          have HB3 := HB4
          clear HB4
          clear x0 x1 x2 x3
          obtain ⟨x0, x1, x2, x3⟩ := (hB7.out _ (HC8.out.below HB3.out).ck).2
          (try dsimp only at x0 x1 x2 x3)
          refine hK.out _ _ ?_ (fun hHeld => ?_)
          · exact ⟨x0, x1, x2, x3⟩
          clear hK K
          try simp only [Act.put, List.setIfInBounds_toArray, List.set_cons_zero, List.set_cons_succ]
          refine wpAnyH_take (i := 8) (oi := { dst := some 18, op := Op.assign (Operand.tmp 143), type := 33, pos := "law.go:103", after := #[{ on := 7, ground := Ground.data }, { on := 7, ground := Ground.chain }, { on := 0, ground := Ground.phase }, { on := 1, ground := Ground.phase }, { on := 2, ground := Ground.phase }, { on := 3, ground := Ground.phase }, { on := 4, ground := Ground.phase }, { on := 5, ground := Ground.phase }, { on := 6, ground := Ground.phase }, { on := 7, ground := Ground.phase }], guard := none }) (v := ?vk8) rfl (by kernel_rfl) (by kernel_rfl) (by kernel_rfl) (fun _ _ _ h => h) (Or.inl ⟨by rfl, ?hyk8⟩) hHeld ?_
          case hyk8 => (intro w hSw; (try dsimp only at hSw); go_simp; (try with_reducible rfl))
          try simp only [Act.put, List.setIfInBounds_toArray, List.set_cons_zero, List.set_cons_succ]
          refine wpAnyH_done (by kernel_rfl) ?_ _
          clear hHeld
          clear HGu hGn hGl HKp
          have HY0 := Lib.hid (show CyW W1 V4 H A G B g P Q ⟨n, N, bn, c, dn⟩ N ⟨f, 0, 0, 0, 0, 0⟩ ⟨1, 0, 0, 0, 0, 0, false, (t : Int), 0⟩ L o1 o2 from ⟨(HC8.out.below HB3.out).ck, (HC8.out.below HB3.out).list, (HC8.out.below HB3.out).gl, HP.out.below HB3.out, HQ.out, ⟨hgHG.1, hgHG.2, hgB⟩, by omega, by omega⟩)
          have hV2V4 := HB3.out.size
          clear HC8 HB3 HP HQ
          obtain ⟨RN, hRN⟩ : ∃ RN : Nat, rootsN ⟨n, N, bn, c, dn⟩ = (RN : Int) := ⟨(rootsN ⟨n, N, bn, c, dn⟩).toNat, by have := rootsN_pos HK.out; omega⟩
          have hRN5 : 1 ≤ RN ∧ RN ≤ 5000 := by have := rootsN_pos HK.out; omega
          have hRNb : 1 ≤ rootsN ⟨n, N, bn, c, dn⟩ ∧ rootsN ⟨n, N, bn, c, dn⟩ ≤ 5000 := by omega
          have HRt : Hid (∀ W, Calls Tryd.prog 10 #[.agg #[.int .i64 (N : Int), .int .i64 (bn : Int), .int .i64 c, .int .i64 (dn : Int)]] W fun e w' => e = .returned (.int .i64 (RN : Int)) ∧ Below W.heap.size W w') := Lib.hid (fun W => by have := refRoots_right (N : Int) (bn : Int) c (dn : Int) HR.out W; rw [show (1 + (dn : Int) + (bn : Int) * c) = (RN : Int) from hRN] at this; exact this)
          obtain ⟨pm, hpm⟩ : ∃ pm : Nat, (N + 1) * (6 * N + 1) = pm := ⟨_, rfl⟩
          have hpm2 : pm ≤ 200000000 := by rw [← hpm]; exact Nat.le_trans (Nat.mul_le_mul (show N + 1 ≤ 4097 by omega) (show 6 * N + 1 ≤ 24577 by omega)) (by decide)
          have hpmI : ((N : Int) + 1) * (6 * (N : Int) + 1) = (pm : Int) := by rw [← hpm, Int.natCast_mul]; rfl
          have hbn12 : bn ≤ 100 := by have h2 := HR.out; unfold Right at h2; omega
          obtain ⟨mx, hmx⟩ : ∃ mx : Nat, pm + 3 * RN + 5 * N + 2 * bn + 10 = mx := ⟨_, rfl⟩
          have HMx : Hid (cyM ⟨n, N, bn, c, dn⟩ = (mx : Int)) := Lib.hid (by unfold cyM; dsimp only; rw [hpmI, hRN]; omega)
          have u1 : IntKind.i64.wrap ((N : Int) + 1) = (N : Int) + 1 := IntWalk.i64_in _ (by omega)
          have u2 : IntKind.i64.wrap (6 * (N : Int)) = 6 * (N : Int) := IntWalk.i64_in _ (by omega)
          have u3 : IntKind.i64.wrap (6 * (N : Int) + 1) = 6 * (N : Int) + 1 := IntWalk.i64_in _ (by omega)
          have u4 : IntKind.i64.wrap (((N : Int) + 1) * (6 * (N : Int) + 1)) = (pm : Int) := by rw [hpmI]; exact IntWalk.i64_in _ (by omega)
          have u5 : IntKind.i64.wrap (3 * (RN : Int)) = 3 * (RN : Int) := IntWalk.i64_in _ (by omega)
          have u6 : IntKind.i64.wrap ((pm : Int) + 3 * (RN : Int)) = (pm : Int) + 3 * (RN : Int) := IntWalk.i64_in _ (by omega)
          have u7 : IntKind.i64.wrap (5 * (N : Int)) = 5 * (N : Int) := IntWalk.i64_in _ (by omega)
          have u8 : IntKind.i64.wrap ((pm : Int) + 3 * (RN : Int) + 5 * (N : Int)) = (pm : Int) + 3 * (RN : Int) + 5 * (N : Int) := IntWalk.i64_in _ (by omega)
          have u9 : IntKind.i64.wrap (2 * (bn : Int)) = 2 * (bn : Int) := IntWalk.i64_in _ (by omega)
          have u10 : IntKind.i64.wrap ((pm : Int) + 3 * (RN : Int) + 5 * (N : Int) + 2 * (bn : Int)) = (pm : Int) + 3 * (RN : Int) + 5 * (N : Int) + 2 * (bn : Int) := IntWalk.i64_in _ (by omega)
          have u11 : IntKind.i64.wrap ((pm : Int) + 3 * (RN : Int) + 5 * (N : Int) + 2 * (bn : Int) + 10) = (mx : Int) := by rw [IntWalk.i64_in _ (by omega)]; omega
          clear hpm hpmI hRN
          go_wp2_with fail
          have HY1 : Hid (CyW W1 V4.drew _ _ _ _ _ _ _ _ _ _ _ _ _ _) := Lib.hid (HY0.out.below (Below.refl _ _).drew)
          clear HY0 x0 x1 x2 x3
          obtain ⟨x0, x1, x2, x3⟩ := HX1.out.below HY1.out.ck.old
          (try dsimp only at x0 x1 x2 x3)
          go_region_held3 ((fun w' => w'.cell? ⟨w.heap.size, 0, none⟩ = some (.int .i64 (N : Int)) ∧ w'.cell? ⟨w.heap.size, 1, none⟩ = some (.int .i64 (bn : Int)) ∧ w'.cell? ⟨w.heap.size, 2, none⟩ = some (.int .i64 c) ∧ w'.cell? ⟨w.heap.size, 3, none⟩ = some (.int .i64 (dn : Int)))) (exact ⟨x0, x1, x2, x3⟩)
            (first
              | (go_at_call 10
                 refine (HRt.out _).mono ?_
                 rintro e V5 ⟨rfl, hb⟩
                 have HY2 := Lib.hid (HY1.out.below hb)
                 clear HY1 hb HRt x0 x1 x2 x3
                 have HY1 := HY2
                 clear HY2
                 obtain ⟨x0, x1, x2, x3⟩ := HX1.out.below HY1.out.ck.old
                 (try dsimp only at x0 x1 x2 x3)))
          clear u1 u2 u3 u4 u5 u6 u7 u8 u9 u10 u11 x0 x1 x2 x3
          have HOk : Hid (CyOK ⟨n, N, bn, c, dn⟩ f L t) := Lib.hid ⟨HK.out, HU.out, by rw [Int.toNat_natCast]; exact HCh.out, HTl.out, fun i hi => HCo.out i (by dsimp only at hi; omega), fun m hm => HId.out m (by dsimp only at hm; omega)⟩
          have HRb : Hid (1 ≤ rootsN ⟨n, N, bn, c, dn⟩ ∧ rootsN ⟨n, N, bn, c, dn⟩ ≤ 5000) := Lib.hid hRNb
          clear hRNb
          clear HRu
          go_wp2_with fail
          go_loopw [20, 21] (fun fv nv wr => ∃ (k : Nat) (fl : Nat) (s : Dy) (x : Co), fv = .int .i64 fl ∧ nv = .int .i64 k ∧ fl ≤ k ∧ k ≤ mx ∧ Hid (CyW W1 wr H A G B g P Q ⟨n, N, bn, c, dn⟩ N s x L o1 o2) ∧ Hid (CcSt ⟨n, N, bn, c, dn⟩ f L t s.f k (fl : Int) x) ∧ Hid (s.U ∧ x.U) ∧ Hid (CoB ⟨n, N, bn, c, dn⟩ x)) (fun _ nv _ => mx - (intOf nv).toNat)
          case atStart => exact ⟨0, 0, ⟨f, 0, 0, 0, 0, 0⟩, ⟨1, 0, 0, 0, 0, 0, false, (t : Int), 0⟩, rfl, rfl, Nat.le_refl _, Nat.zero_le _, HY1, Lib.hid (CcSt.first HOk.out _ rfl rfl rfl rfl), Lib.hid ⟨HU.out, u64_zero, u64_zero⟩, Lib.hid (by have := HRb.out; unfold CoB; dsimp only; omega)⟩
          case round =>
            clear HY1
            obtain ⟨k, fl, s, x, rfl, rfl, hfk, hkm, HY, HC5, HV, HB5⟩ := hrel
            by_cases hcy : x.cy = 0
            · obtain ⟨s', x', what, hst, hlt, hcc, hfp⟩ := HC5.out.go HOk.out hcy
              rw [HMx.out] at hlt
              have hbd : -1000000 ≤ x.j ∧ x.j ≤ 1000000 ∧ -1000000 ≤ x.c ∧ x.c ≤ 1000000 ∧ -1000000 ≤ x.m ∧ x.m ≤ 1000000 ∧ -1000000 ≤ x.cy ∧ x.cy ≤ 1000000 := by have h1 := HB5.out; have h2 := HRb.out; unfold CoB at h1; dsimp only at h1; omega
              have HST : Hid (∀ W, CkW W1 W H A G B ⟨n, N, bn, c, dn⟩ s x → _) := Lib.hid (fun W h => col_c (w := W) h.hand HV.out.1 (HS1.out.below h.old) HR.out hn0 x HV.out.2 hbd)
              have HV2 := Lib.hid (colS_U HV.out.1 (C := ⟨n, N, bn, c, dn⟩) x HV.out.2)
              have HB6 := Lib.hid (colS_B (C := ⟨n, N, bn, c, dn⟩) (s := s) (x := x) (by dsimp only; omega) (by dsimp only; have h2 := HR.out; unfold Right at h2; omega) HRb.out.1 HB5.out)
              rw [hst] at HST HV2 HB6
              have HC6 := Lib.hid hcc
              have HFp := Lib.hid hfp
              clear hst hcc hfp HV HB5 hbd HC5
              obtain ⟨l, j, xc, m2, xa, p, fd, tl, cy⟩ := x
              obtain ⟨l', j', xc', m', xa', p', fd', tl', cy'⟩ := x'
              dsimp only at hcy HST HV2 HB6
              subst hcy
              obtain ⟨b0, b1, b2, b3, b4, b5, b6, b7, b8, bf⟩ := HY.out.ck.cells9
              obtain ⟨x0, x1, x2, x3⟩ := HX1.out.below HY.out.ck.old
              (try dsimp only at x0 x1 x2 x3)
              have hk1 : IntKind.i64.wrap ((k : Int) + 1) = (k : Int) + 1 := IntWalk.i64_in _ (by omega)
              have hf1 : IntKind.i64.wrap ((fl : Int) + 1) = (fl : Int) + 1 := IntWalk.i64_in _ (by omega)
              have hge : decide ((mx : Int) ≤ (k : Int)) = false := decide_eq_false (by omega)
              go_wp2_with fail
              refine (HST.out _ HY.out.ck).mono ?_
              rintro e V hp
              obtain ⟨rfl, hT⟩ := HY.out.step hp
              have HY2 := Lib.hid hT
              have hBl : B < V.heap.size := hT.ck.col.lt
              have hBn : B ≠ V.heap.size := by omega
              clear hp hT HY HST b0 b1 b2 b3 b4 b5 b6 b7 b8 bf x0 x1 x2 x3
              obtain ⟨b0, b1, b2, b3, b4, b5, b6, b7, b8, bf⟩ := HY2.out.ck.cells9
              obtain ⟨x0, x1, x2, x3⟩ := HX1.out.below HY2.out.ck.old
              (try dsimp only at x0 x1 x2 x3)
              have hXl : w.heap.size < V.heap.size := lt_of_cell x0
              have hXn : w.heap.size ≠ V.heap.size := by omega
              by_cases hwh : what = 1
              · subst hwh
                rw [if_pos rfl] at HC6
                have HFl := Lib.hid (HFp.out rfl)
                clear HFp
                have hHn : H ≠ V.heap.size := by have := HY2.out.ck.hand.lt; omega
                have HYa := Lib.hid (HY2.out.below (below_new V (.cells #[.int .i64 l', .int .i64 j', .int .i64 xc', .int .i64 m', .int .u64 xa', .int .u64 p', .bool fd', .int .i64 tl', .int .i64 cy'] 37)))
                have HNa := Lib.hid (Col9.new V l' j' xc' m' xa' p' fd' tl' cy')
                have h0 := HYa.out.ck.hand.cells.1
                go_wp2_with fail
                refine (All_c HYa.out.ck.hand.ar hn20).mono ?_
                rintro e V6 ⟨rfl, hrow, hb⟩
                have HY6 := Lib.hid (HYa.out.below hb)
                have HN6 := Lib.hid (HNa.out.below hb)
                have hZs : (V.alloc (.cells #[.int .i64 l', .int .i64 j', .int .i64 xc', .int .i64 m', .int .u64 xa', .int .u64 p', .bool fd', .int .i64 tl', .int .i64 cy'] 37)).heap.size = V.heap.size + 1 := by simp
                rw [hZs] at hrow ⊢
                obtain ⟨Z, hZ⟩ : ∃ Z, V.heap.size + 1 = Z := ⟨_, rfl⟩
                rw [hZ] at hrow ⊢
                have HR6 := Lib.hid hrow
                clear hrow hb HYa HNa HY2 h0 hHn hZs hZ b0 b1 b2 b3 b4 b5 b6 b7 b8 bf x0 x1 x2 x3
                generalize V.heap.size = Nx at *
                obtain ⟨x0, x1, x2, x3⟩ := HX1.out.below HY6.out.ck.old
                (try dsimp only at x0 x1 x2 x3)
                have hXl2 : w.heap.size < V6.heap.size := lt_of_cell x0
                clear x0 x1 x2 x3
                go_wp2_with fail
                go_loopw [25] (fun iv wr => ∃ i : Nat, iv = .int .i64 i ∧ i ≤ N ∧ Hid (wr = V6)) (fun iv _ => N - (intOf iv).toNat)
                case atStart => exact ⟨0, rfl, by omega, Lib.hid rfl⟩
                case round =>
                  obtain ⟨i, rfl, hi, hwr⟩ := hrel
                  obtain rfl := hwr.out
                  clear hwr
                  by_cases hiN : i < N
                  · have hq := (part_at HK.out (i := i) (by dsimp only; omega)).1
                    dsimp only at hq
                    rw [HBs.out] at hq
                    obtain ⟨q, hqq⟩ : ∃ q, colI ⟨n, N, bn, c, dn⟩ i = q := ⟨_, rfl⟩
                    rw [hqq] at hq
                    have hqn : q < n := by omega
                    have cq : wr.cell? ⟨Z, q, none⟩ = some (.int .u64 (s'.f q)) := HR6.out.cell (j := q) (by first | omega | (dsimp only; omega))
                    have cl := HY6.out.live.cell hiN
                    have ck := HY6.out.kept.cell hiN
                    obtain ⟨hc1, hc2⟩ := HFl.out i (by first | omega | (dsimp only; omega))
                    rw [hqq] at hc1 hc2
                    have hlk : o1 i = true → o2 i = true := fun h => (HQe.out i).2 (root_live HRm.out ((HPe.out i).1 h))
                    have hk2 : s'.f q = 2 ↔ o2 i = true := hc2.trans (HQe.out i).symm
                    clear hc2
                    have w1 : IntKind.i64.wrap (3 * (i : Int)) = 3 * (i : Int) := IntWalk.i64_in _ (by omega)
                    have w2 : IntKind.i64.wrap ((base : Int) + 3 * (i : Int)) = (base : Int) + 3 * (i : Int) := IntWalk.i64_in _ (by omega)
                    have w3 : IntKind.i64.wrap ((base : Int) + 3 * (i : Int) + 2) = (q : Int) := by rw [← hq]; exact IntWalk.i64_in _ (by omega)
                    have hi0 : (0 : Int) ≤ (i : Int) := by omega
                    have hiI : (i : Int) < (N : Int) := by omega
                    have hq0 : (0 : Int) ≤ (q : Int) := by omega
                    have hqI : (q : Int) < (n : Int) := by omega
                    have hi1 : IntKind.i64.wrap ((i : Int) + 1) = (i : Int) + 1 := IntWalk.i64_in _ (by omega)
                    obtain ⟨x0, x1, x2, x3⟩ := HX1.out.below HY6.out.ck.old
                    (try dsimp only at x0 x1 x2 x3)
                    generalize s'.f q = co at *
                    generalize ho2 : o2 i = b2 at *
                    generalize ho1 : o1 i = b1 at *
                    clear ho1 ho2 hq hqq
                    have h3 : (co = 0 ∧ b2 = false ∧ b1 = false) ∨ (co = 2 ∧ b2 = true) := by
                      rcases hc1 with h | h
                      · refine .inl ⟨h, ?_⟩
                        have : b2 = false := by cases b2 with
                          | false => rfl
                          | true => exact absurd (hk2.2 rfl) (by omega)
                        refine ⟨this, ?_⟩
                        cases b1 with
                          | false => rfl
                          | true => rw [hlk rfl] at this; exact absurd this (by decide)
                      · exact .inr ⟨h, hk2.1 h⟩
                    clear hc1 hk2 hlk
                    rcases h3 with ⟨rfl, rfl, rfl⟩ | ⟨rfl, rfl⟩
                    · skip
                      skip
                      go_wp2_with fail
                      go_roundw
                      case rel => exact ⟨i + 1, by go_num, by omega, Lib.hid (by first | trivial | rfl)⟩
                      case measure => simp [intOf]; omega
                    · cases b1
                      · skip
                        skip
                        go_wp2_with fail
                        go_roundw
                        case rel => exact ⟨i + 1, by go_num, by omega, Lib.hid (by first | trivial | rfl)⟩
                        case measure => simp [intOf]; omega
                      · skip
                        skip
                        go_wp2_with fail
                        go_roundw
                        case rel => exact ⟨i + 1, by go_num, by omega, Lib.hid (by first | trivial | rfl)⟩
                        case measure => simp [intOf]; omega
                  · obtain rfl : N = i := by omega
                    clear hiN hi
                    have hb9 := HY6.out.ck.cells9
                    obtain ⟨b0, b1, b2, b3, b4, b5, b6, b7, b8, bf⟩ := hb9
                    obtain ⟨y0, y1, y2, y3, y4, y5, y6, y7, y8, yf⟩ := HN6.out.cells
                    obtain ⟨x0, x1, x2, x3⟩ := HX1.out.below HY6.out.ck.old
                    (try dsimp only at x0 x1 x2 x3)
                    go_wp2_with fail
                    have HY3 := Lib.hid (HY6.out.put ⟨l', j', xc', m', xa', p', fd', tl', cy'⟩)
                    go_roundw
                    case rel => exact ⟨k + 1, fl + 1, s', ⟨l', j', xc', m', xa', p', fd', tl', cy'⟩, by go_num, by go_num, by omega, by omega, HY3, HC6, HV2, HB6⟩
                    case measure => simp [intOf]; omega
              · rw [if_neg hwh, Int.add_zero] at HC6
                have e1 : (what == 1) = false := by simpa using hwh
                clear hwh HFp hf1
                go_wp2_with fail
                have HY3 := Lib.hid ((HY2.out.put ⟨l', j', xc', m', xa', p', fd', tl', cy'⟩).below (below_new _ (.cells #[.int .i64 l', .int .i64 j', .int .i64 xc', .int .i64 m', .int .u64 xa', .int .u64 p', .bool fd', .int .i64 tl', .int .i64 cy'] 37)))
                go_roundw
                case rel => exact ⟨k + 1, fl, s', ⟨l', j', xc', m', xa', p', fd', tl', cy'⟩, by go_num, by go_num, by omega, by omega, HY3, HC6, HV2, HB6⟩
                case measure => simp [intOf]; omega
            · obtain ⟨hEnd, hfl1, hcy1⟩ : CyEnd ⟨n, N, bn, c, dn⟩ f L s.f ∧ (fl : Int) = 1 ∧ x.cy = 1 := by
                cases HC5.out with
                | roots _ _ _ h _ => exact absurd h hcy
                | passes _ _ _ _ _ _ _ _ _ _ _ _ _ h _ => exact absurd h hcy
                | bar _ _ _ _ _ _ _ _ _ _ h => exact absurd h hcy
                | sweep _ _ _ _ _ _ _ _ _ _ h => exact absurd h hcy
                | over a b c => exact ⟨a, b, c⟩
              obtain rfl : fl = 1 := by omega
              obtain ⟨Wl, hch, hcells⟩ := hEnd
              dsimp only at hch hcells
              rw [Int.toNat_natCast] at hch
              obtain ⟨K, hK⟩ : ∃ K, L ++ Wl = K := ⟨_, rfl⟩
              rw [hK] at hch hcells
              have hKn : K ≠ [] := by rw [← hK]; intro e; have := HTl.out; rw [(List.append_eq_nil_iff.1 e).1] at this; cases this
              have hKl : K.length ≤ N := nodup_le hch.nodup (fun i hi => hch.lt hi)
              have HKt : Hid (∀ i ∈ K, i < N) := Lib.hid (fun i hi => hch.lt hi)
              have elist := listF_some.2 ⟨hch, hKn⟩
              have HKne : Hid (K ≠ []) := Lib.hid hKn
              have HCe := Lib.hid hcells
              have HVf := Lib.hid HV.out.1
              have HLs : Hid (∀ W va c1, WordsAt W va n s.f → Calls Tryd.prog 6 #[.agg #[.int .i64 (N : Int), .int .i64 (bn : Int), .int .i64 c, .int .i64 (dn : Int)], .slice va n c1] W (ListPost W (some K))) := Lib.hid (fun W va c1 h => by have := HLi.out W s.f va c1 HVf.out h; rw [elist] at this; exact this)
              clear elist hch hcells hK hKn HV HB5 HC5 hfl1 hfk hkm HLi HVf
              obtain ⟨l, j, xc, m2, xa, p, fd, tl, cy⟩ := x
              dsimp only at hcy1
              subst hcy1
              clear hcy
              have h0 := HY.out.ck.hand.cells.1
              obtain ⟨b0, b1, b2, b3, b4, b5, b6, b7, b8, bf⟩ := HY.out.ck.cells9
              go_wp2_with fail
              refine (All_c HY.out.ck.hand.ar hn20).mono ?_
              rintro e W6 ⟨rfl, hrow, hb⟩
              have HY6 := Lib.hid (HY.out.below hb)
              have HR6 := Lib.hid hrow
              generalize s.f = f' at *
              generalize wr.heap.size = Z at *
              clear hrow hb HY h0 b0 b1 b2 b3 b4 b5 b6 b7 b8 bf
              obtain ⟨x0, x1, x2, x3⟩ := HX1.out.below HY6.out.ck.old
              (try dsimp only at x0 x1 x2 x3)
              go_wp2_with fail
              refine (HLs.out _ (some ⟨Z, 0, none⟩) n HR6.out.words).mono ?_
              rintro e W7 ⟨vv2, rfl, hrow2, hb⟩
              simp only [Option.getD_some, Option.isSome_some] at hrow2 ⊢
              obtain ⟨vb, vbc, rfl, hIg, hylt, hyz, _⟩ := IntsAt.own hrow2
              obtain ⟨kk, hkk⟩ : ∃ kk, K.length = kk := ⟨_, rfl⟩
              rw [hkk] at hKl ⊢
              have HKk := Lib.hid hkk
              clear hkk
              obtain ⟨y, rfl⟩ : ∃ y, vb = some ⟨y, 0, none⟩ := by
                rcases hyz with h | h
                · rcases hIg with q | ⟨_, _, q, _⟩
                  · exfalso; have := HKne.out; exact this q
                  · rw [h] at q; cases q
                · exact h
              have HIy := Lib.hid hIg
              have HR7 := Lib.hid (HR6.out.below hb)
              have HY7 := Lib.hid (HY6.out.below hb)
              clear hIg hrow2 hb hylt hyz HR6 HY6 HLs x0 x1 x2 x3 HKne
              obtain ⟨x0, x1, x2, x3⟩ := HX1.out.below HY7.out.ck.old
              (try dsimp only at x0 x1 x2 x3)
              have hmk := make_bools N (by omega)
              have hnn : ((n : Int) != (n : Int)) = false := by simp
              have hB0 := Lib.hid (below_new W7 (.cells (madeCells #[.bool false] N) 4))
              have hO0 := Lib.hid (BoolAt.made W7 N)
              go_wp2_with fail
              clear hnn hmk x0 x1 x2 x3
              generalize W7.alloc (.cells (madeCells #[.bool false] N) 4) = W8 at *
              go_loopw [31] (fun iv wr => ∃ i : Nat, iv = .int .i64 i ∧ i ≤ kk ∧ Hid (Below W7.heap.size W7 wr) ∧ Hid (BoolAt wr W7.heap.size N (fun z => decide (z ∈ K.take i)))) (fun iv _ => kk - (intOf iv).toNat)
              case atStart => exact ⟨0, rfl, by omega, hB0, Lib.hid (hO0.out.congr (fun z _ => by simp))⟩
              case round =>
                clear hB0 hO0
                obtain ⟨i, rfl, hi, HB, HO5⟩ := hrel
                by_cases hil : i < kk
                · obtain ⟨e, he⟩ : ∃ e, K.getD i 0 = e := ⟨_, rfl⟩
                  have hge : K[i]? = some e := by rw [← he, List.getD_eq_getElem?_getD, List.getElem?_eq_getElem (by rw [HKk.out]; exact hil)]; rfl
                  have heN : e < N := HKt.out e (List.mem_of_getElem? hge)
                  have ci : wr.cell? ⟨y, i, none⟩ = some (.int .i64 (e : Int)) := by
                    obtain ⟨b', off', q, h⟩ := (HIy.out.below HB.out).at' (j := i) (by rw [HKk.out]; exact hil)
                    obtain ⟨rfl, rfl⟩ : y = b' ∧ 0 = off' := by simpa using q
                    rw [Nat.zero_add, he] at h
                    exact h
                  have co := HO5.out.cell heN
                  have cf := HO5.out.frozen e
                  have HO6 : Hid (BoolAt (wr.setCell ⟨W7.heap.size, e, none⟩ (.bool true)) W7.heap.size N (fun z => decide (z ∈ K.take (i + 1)))) := Lib.hid ((HO5.out.set e true).congr (fun z _ => by
                    have ht : K.take (i + 1) = K.take i ++ [e] := by rw [List.take_add_one, hge]; rfl
                    show (if z = e then true else decide (z ∈ K.take i)) = decide (z ∈ K.take (i + 1))
                    rw [ht]
                    by_cases q : z = e
                    · subst q; simp
                    · rw [if_neg q]; simp [q]))
                  have HB6 : Hid (Below W7.heap.size W7 (wr.setCell ⟨W7.heap.size, e, none⟩ (.bool true))) := Lib.hid (HB.out.setCell (p := ⟨W7.heap.size, e, none⟩) (Nat.le_refl _) _)
                  have hi0 : (0 : Int) ≤ (i : Int) := by omega
                  have hiI : (i : Int) < (kk : Int) := by omega
                  have he0 : (0 : Int) ≤ (e : Int) := by omega
                  have heI : (e : Int) < (N : Int) := by omega
                  have hi1 : IntKind.i64.wrap ((i : Int) + 1) = (i : Int) + 1 := IntWalk.i64_in _ (by omega)
                  generalize decide (e ∈ K.take i) = bb at *
                  clear hge he HO5 HB
                  go_wp2_with fail
                  go_roundw
                  case rel => exact ⟨i + 1, by go_num, by omega, HB6, HO6⟩
                  case measure => simp [intOf]; omega
                · obtain rfl : kk = i := by omega
                  have HOa : Hid (BoolAt wr W7.heap.size N (fun z => decide (z ∈ K))) := Lib.hid (HO5.out.congr (fun z _ => by rw [List.take_of_length_le (by rw [HKk.out]; omega)]))
                  have hLowa := HB.out.size
                  have HYa := Lib.hid (HY7.out.below HB.out)
                  have HRa := Lib.hid (HR7.out.below HB.out)
                  have HIa := Lib.hid (HY7.out.list.below HB.out)
                  clear HB HO5 hil hi HIy HKk HR7 HY7
                  obtain ⟨x0, x1, x2, x3⟩ := HX1.out.below HYa.out.ck.old
                  (try dsimp only at x0 x1 x2 x3)
                  have hmk := make_bools N (by omega)
                  have hB0 := Lib.hid (below_new wr (.cells (madeCells #[.bool false] N) 4))
                  have hO0 := Lib.hid (BoolAt.made wr N)
                  have hlow9 : W7.heap.size < wr.heap.size := HOa.out.lt
                  go_wp2_with fail
                  clear hmk x0 x1 x2 x3
                  generalize W7.heap.size = R at *
                  generalize hW9 : wr = W9 at *
                  clear hW9
                  generalize W9.alloc (.cells (madeCells #[.bool false] N) 4) = W10 at *
                  go_loopw [33] (fun iv wr => ∃ i : Nat, iv = .int .i64 i ∧ i ≤ ll ∧ Hid (Below W9.heap.size W9 wr) ∧ Hid (BoolAt wr W9.heap.size N (fun z => decide (z ∈ L.take i)))) (fun iv _ => ll - (intOf iv).toNat)
                  case atStart => exact ⟨0, rfl, by omega, hB0, Lib.hid (hO0.out.congr (fun z _ => by simp))⟩
                  case round =>
                    clear hB0 hO0
                    obtain ⟨i, rfl, hi, HB, HO5⟩ := hrel
                    by_cases hil : i < ll
                    · obtain ⟨e, he⟩ : ∃ e, L.getD i 0 = e := ⟨_, rfl⟩
                      have hge : L[i]? = some e := by rw [← he, List.getD_eq_getElem?_getD, List.getElem?_eq_getElem (by rw [HLl.out]; exact hil)]; rfl
                      have heN : e < N := HLt.out e (List.mem_of_getElem? hge)
                      have ci : wr.cell? ⟨g, i, none⟩ = some (.int .i64 (e : Int)) := by
                        obtain ⟨b', off', q, h⟩ := (HIa.out.below HB.out).at' (j := i) (by rw [HLl.out]; exact hil)
                        obtain ⟨rfl, rfl⟩ : g = b' ∧ 0 = off' := by simpa using q
                        rw [Nat.zero_add, he] at h
                        exact h
                      have co := HO5.out.cell heN
                      have cf := HO5.out.frozen e
                      have HO6 : Hid (BoolAt (wr.setCell ⟨W9.heap.size, e, none⟩ (.bool true)) W9.heap.size N (fun z => decide (z ∈ L.take (i + 1)))) := Lib.hid ((HO5.out.set e true).congr (fun z _ => by
                        have ht : L.take (i + 1) = L.take i ++ [e] := by rw [List.take_add_one, hge]; rfl
                        show (if z = e then true else decide (z ∈ L.take i)) = decide (z ∈ L.take (i + 1))
                        rw [ht]
                        by_cases q : z = e
                        · subst q; simp
                        · rw [if_neg q]; simp [q]))
                      have HB6 : Hid (Below W9.heap.size W9 (wr.setCell ⟨W9.heap.size, e, none⟩ (.bool true))) := Lib.hid (HB.out.setCell (p := ⟨W9.heap.size, e, none⟩) (Nat.le_refl _) _)
                      have hi0 : (0 : Int) ≤ (i : Int) := by omega
                      have hiI : (i : Int) < (ll : Int) := by omega
                      have he0 : (0 : Int) ≤ (e : Int) := by omega
                      have heI : (e : Int) < (N : Int) := by omega
                      have hi1 : IntKind.i64.wrap ((i : Int) + 1) = (i : Int) + 1 := IntWalk.i64_in _ (by omega)
                      generalize decide (e ∈ L.take i) = bb at *
                      clear hge he HO5 HB
                      go_wp2_with fail
                      go_roundw
                      case rel => exact ⟨i + 1, by go_num, by omega, HB6, HO6⟩
                      case measure => simp [intOf]; omega
                    · obtain rfl : ll = i := by omega
                      have HOb : Hid (BoolAt wr W9.heap.size N (fun z => decide (z ∈ L))) := Lib.hid (HO5.out.congr (fun z _ => by rw [List.take_of_length_le (by rw [HLl.out]; omega)]))
                      have hLowb := HB.out.size
                      have HYb := Lib.hid (HYa.out.below HB.out)
                      have HRb2 := Lib.hid (HRa.out.below HB.out)
                      have HOc := Lib.hid (HOa.out.below HB.out)
                      clear HB HO5 hil hi HIa HRa HYa HOa
                      obtain ⟨x0, x1, x2, x3⟩ := HX1.out.below HYb.out.ck.old
                      (try dsimp only at x0 x1 x2 x3)
                      go_wp2_with fail
                      clear x0 x1 x2 x3
                      generalize W9.heap.size = S at *
                      generalize hW11 : wr = W11 at *
                      clear hW11
                      have hB11 := Lib.hid (Below.refl W11.heap.size W11)
                      go_loopw [34] (fun iv wr => ∃ i : Nat, iv = .int .i64 i ∧ i ≤ N ∧ Hid (Below W11.heap.size W11 wr)) (fun iv _ => N - (intOf iv).toNat)
                      case atStart => exact ⟨0, rfl, by omega, hB11⟩
                      case round =>
                        clear hB11
                        obtain ⟨i, rfl, hi, HB⟩ := hrel
                        by_cases hiN : i < N
                        · have hq := (part_at HK.out (i := i) (by dsimp only; omega)).1
                          dsimp only at hq
                          rw [HBs.out] at hq
                          obtain ⟨q, hqq⟩ : ∃ q, colI ⟨n, N, bn, c, dn⟩ i = q := ⟨_, rfl⟩
                          rw [hqq] at hq
                          have hqn : q < n := by omega
                          obtain ⟨hm, hw0⟩ := HCe.out i (by omega)
                          rw [hqq] at hw0
                          have cq : wr.drew.cell? ⟨Z, q, none⟩ = some (.int .u64 (f' q)) := (HRb2.out.below HB.out).cell (j := q) (by first | omega | (dsimp only; omega))
                          rw [hw0] at cq
                          have cr : wr.drew.cell? ⟨R, i, none⟩ = some (.bool (decide (i ∈ K))) := (HOc.out.below HB.out).cell hiN
                          have cs : wr.drew.cell? ⟨S, i, none⟩ = some (.bool (decide (i ∈ L))) := (HOb.out.below HB.out).cell hiN
                          have ck : wr.drew.cell? ⟨Q, i, none⟩ = some (.bool (o2 i)) := (HYb.out.kept.below HB.out).cell hiN
                          have hor : decide (i ∈ K) = (decide (i ∈ L) || !(o2 i)) := by
                            have hk := HQe.out i
                            by_cases h1 : i ∈ L
                            · have := hm.2 (.inl h1); simp [h1, this]
                            · by_cases h2 : o2 i = true
                              · have : ¬ i ∈ K := fun e => by rcases hm.1 e with e | e; exact h1 e; exact e (hk.1 h2)
                                simp [h1, h2, this]
                              · have : i ∈ K := hm.2 (.inr (fun e => h2 (hk.2 e)))
                                have h3 : o2 i = false := by simpa using h2
                                simp [h1, h3, this]
                          rw [hor] at cr
                          have w1 : IntKind.i64.wrap (3 * (i : Int)) = 3 * (i : Int) := IntWalk.i64_in _ (by omega)
                          have w2 : IntKind.i64.wrap ((base : Int) + 3 * (i : Int)) = (base : Int) + 3 * (i : Int) := IntWalk.i64_in _ (by omega)
                          have w3 : IntKind.i64.wrap ((base : Int) + 3 * (i : Int) + 2) = (q : Int) := by rw [← hq]; exact IntWalk.i64_in _ (by omega)
                          have hi0 : (0 : Int) ≤ (i : Int) := by omega
                          have hiI : (i : Int) < (N : Int) := by omega
                          have hq0 : (0 : Int) ≤ (q : Int) := by omega
                          have hqI : (q : Int) < (n : Int) := by omega
                          have hi1 : IntKind.i64.wrap ((i : Int) + 1) = (i : Int) + 1 := IntWalk.i64_in _ (by omega)
                          have HB2 := Lib.hid HB.out.drew
                          obtain ⟨x0, x1, x2, x3⟩ := (HX1.out.below HYb.out.ck.old).below HB.out
                          (try dsimp only at x0 x1 x2 x3)
                          generalize o2 i = b2 at *
                          generalize decide (i ∈ L) = b1 at *
                          clear hor hm hw0 hq hqq
                          cases b1
                          · cases b2
                            · simp only [Bool.false_or] at cr
                              go_wp2_with fail
                              go_region_held3 ((fun w' => w'.cell? ⟨Z, q, none⟩ = some (.int .u64 0) ∧ w'.cell? ⟨R, i, none⟩ = some (.bool true) ∧ w'.cell? ⟨S, i, none⟩ = some (.bool false) ∧ w'.cell? ⟨Q, i, none⟩ = some (.bool false))) (exact ⟨cq, cr, cs, ck⟩) (fail)
                              clear HB cq cr cs ck x0 x1 x2 x3
                              generalize wr.drew = wd at *
                              go_wp2_with fail
                              go_roundw
                              case rel => exact ⟨i + 1, by go_num, by omega, HB2⟩
                              case measure => simp [intOf]; omega
                            · simp only [Bool.false_or] at cr
                              go_wp2_with fail
                              go_region_held3 ((fun w' => w'.cell? ⟨Z, q, none⟩ = some (.int .u64 0) ∧ w'.cell? ⟨R, i, none⟩ = some (.bool false) ∧ w'.cell? ⟨S, i, none⟩ = some (.bool false) ∧ w'.cell? ⟨Q, i, none⟩ = some (.bool true))) (exact ⟨cq, cr, cs, ck⟩) (fail)
                              clear HB cq cr cs ck x0 x1 x2 x3
                              generalize wr.drew = wd at *
                              go_wp2_with fail
                              go_roundw
                              case rel => exact ⟨i + 1, by go_num, by omega, HB2⟩
                              case measure => simp [intOf]; omega
                          · simp only [Bool.true_or] at cr
                            go_wp2_with fail
                            refine wp_region_held_drew (S := (fun w' => w'.cell? ⟨Z, q, none⟩ = some (.int .u64 0) ∧ w'.cell? ⟨R, i, none⟩ = some (.bool true) ∧ w'.cell? ⟨S, i, none⟩ = some (.bool true) ∧ w'.cell? ⟨Q, i, none⟩ = some (.bool b2))) (by kernel_rfl) ?_ (fun hHeld => ?_)
                            · exact ⟨cq, cr, cs, ck⟩
                            refine wpAnyH_take (i := 0) (oi := { dst := some 291, op := Op.move (Operand.tmp 30), type := 33, pos := "law.go:136", after := #[], guard := none }) (v := ?vztrue0) rfl (by kernel_rfl) (by kernel_rfl) (by kernel_rfl) (fun _ _ _ h => h) (Or.inl ⟨by rfl, ?hyztrue0⟩) hHeld ?_
                            case hyztrue0 => (intro w hSw; (try dsimp only at hSw); go_simp; (try with_reducible rfl))
                            try simp only [Act.put, List.setIfInBounds_toArray, List.set_cons_zero, List.set_cons_succ]
                            refine wpAnyH_take (i := 1) (oi := { dst := some 292, op := Op.move (Operand.tmp 34), type := 3, pos := "law.go:136", after := #[], guard := none }) (v := ?vztrue1) rfl (by kernel_rfl) (by kernel_rfl) (by kernel_rfl) (fun _ _ _ h => h) (Or.inl ⟨by rfl, ?hyztrue1⟩) hHeld ?_
                            case hyztrue1 => (intro w hSw; (try dsimp only at hSw); go_simp; (try with_reducible rfl))
                            try simp only [Act.put, List.setIfInBounds_toArray, List.set_cons_zero, List.set_cons_succ]
                            refine wpAnyH_take (i := 2) (oi := { dst := some 293, op := Op.indexAddr 33 (Operand.tmp 291) (Operand.tmp 292), type := 0, pos := "law.go:136", after := #[{ on := 0, ground := Ground.data }, { on := 1, ground := Ground.data }], guard := none }) (v := ?vztrue2) rfl (by kernel_rfl) (by kernel_rfl) (by kernel_rfl) (fun _ _ _ h => h) (Or.inl ⟨by rfl, ?hyztrue2⟩) hHeld ?_
                            case hyztrue2 => (intro w hSw; (try dsimp only at hSw); go_simp; (try with_reducible rfl))
                            try simp only [Act.put, List.setIfInBounds_toArray, List.set_cons_zero, List.set_cons_succ]
                            refine wpAnyH_take (i := 3) (oi := { dst := some 294, op := Op.load 4 (Operand.tmp 293), type := 4, pos := "law.go:136", after := #[{ on := 2, ground := Ground.data }], guard := none }) (v := ?vztrue3) rfl (by kernel_rfl) (by kernel_rfl) (by kernel_rfl) (fun _ _ _ h => h) (Or.inl ⟨by rfl, ?hyztrue3⟩) hHeld ?_
                            case hyztrue3 => (intro w hSw; (try dsimp only at hSw); go_simp; (try with_reducible rfl))
                            try simp only [Act.put, List.setIfInBounds_toArray, List.set_cons_zero, List.set_cons_succ]
                            refine wpAnyH_take (i := 4) (oi := { dst := some 295, op := Op.move (Operand.tmp 32), type := 33, pos := "law.go:136", after := #[], guard := none }) (v := ?vztrue4) rfl (by kernel_rfl) (by kernel_rfl) (by kernel_rfl) (fun _ _ _ h => h) (Or.inl ⟨by rfl, ?hyztrue4⟩) hHeld ?_
                            case hyztrue4 => (intro w hSw; (try dsimp only at hSw); go_simp; (try with_reducible rfl))
                            try simp only [Act.put, List.setIfInBounds_toArray, List.set_cons_zero, List.set_cons_succ]
                            refine wpAnyH_take (i := 5) (oi := { dst := some 296, op := Op.move (Operand.tmp 34), type := 3, pos := "law.go:136", after := #[], guard := none }) (v := ?vztrue5) rfl (by kernel_rfl) (by kernel_rfl) (by kernel_rfl) (fun _ _ _ h => h) (Or.inl ⟨by rfl, ?hyztrue5⟩) hHeld ?_
                            case hyztrue5 => (intro w hSw; (try dsimp only at hSw); go_simp; (try with_reducible rfl))
                            try simp only [Act.put, List.setIfInBounds_toArray, List.set_cons_zero, List.set_cons_succ]
                            refine wpAnyH_take (i := 6) (oi := { dst := some 297, op := Op.indexAddr 33 (Operand.tmp 295) (Operand.tmp 296), type := 0, pos := "law.go:136", after := #[{ on := 4, ground := Ground.data }, { on := 5, ground := Ground.data }], guard := none }) (v := ?vztrue6) rfl (by kernel_rfl) (by kernel_rfl) (by kernel_rfl) (fun _ _ _ h => h) (Or.inl ⟨by rfl, ?hyztrue6⟩) hHeld ?_
                            case hyztrue6 => (intro w hSw; (try dsimp only at hSw); go_simp; (try with_reducible rfl))
                            try simp only [Act.put, List.setIfInBounds_toArray, List.set_cons_zero, List.set_cons_succ]
                            refine wpAnyH_take (i := 7) (oi := { dst := some 298, op := Op.load 4 (Operand.tmp 297), type := 4, pos := "law.go:136", after := #[{ on := 6, ground := Ground.data }], guard := none }) (v := ?vztrue7) rfl (by kernel_rfl) (by kernel_rfl) (by kernel_rfl) (fun _ _ _ h => h) (Or.inl ⟨by rfl, ?hyztrue7⟩) hHeld ?_
                            case hyztrue7 => (intro w hSw; (try dsimp only at hSw); go_simp; (try with_reducible rfl))
                            try simp only [Act.put, List.setIfInBounds_toArray, List.set_cons_zero, List.set_cons_succ]
                            refine wpAnyH_take (i := 8) (oi := { dst := some 299, op := Op.move (Operand.tmp 298), type := 4, pos := "law.go:136", after := #[{ on := 7, ground := Ground.data }], guard := none }) (v := ?vztrue8) rfl (by kernel_rfl) (by kernel_rfl) (by kernel_rfl) (fun _ _ _ h => h) (Or.inl ⟨by rfl, ?hyztrue8⟩) hHeld ?_
                            case hyztrue8 => (intro w hSw; (try dsimp only at hSw); go_simp; (try with_reducible rfl))
                            try simp only [Act.put, List.setIfInBounds_toArray, List.set_cons_zero, List.set_cons_succ]
                            refine wpAnyH_take (i := 9) (oi := { dst := some 300, op := Op.move (Operand.tmp 18), type := 33, pos := "law.go:136", after := #[{ on := 8, ground := Ground.guard }], guard := some (8, false) }) (v := undef) rfl (by kernel_rfl) (by kernel_rfl) (by kernel_rfl) (fun _ _ _ h => h) (Or.inr ⟨by rfl, rfl⟩) hHeld ?_
                            try simp only [Act.put, List.setIfInBounds_toArray, List.set_cons_zero, List.set_cons_succ]
                            refine wpAnyH_take (i := 10) (oi := { dst := some 301, op := Op.move (Operand.tmp 34), type := 3, pos := "law.go:136", after := #[{ on := 8, ground := Ground.guard }], guard := some (8, false) }) (v := undef) rfl (by kernel_rfl) (by kernel_rfl) (by kernel_rfl) (fun _ _ _ h => h) (Or.inr ⟨by rfl, rfl⟩) hHeld ?_
                            try simp only [Act.put, List.setIfInBounds_toArray, List.set_cons_zero, List.set_cons_succ]
                            refine wpAnyH_take (i := 11) (oi := { dst := some 302, op := Op.indexAddr 33 (Operand.tmp 300) (Operand.tmp 301), type := 0, pos := "law.go:136", after := #[{ on := 9, ground := Ground.data }, { on := 10, ground := Ground.data }, { on := 8, ground := Ground.guard }], guard := some (8, false) }) (v := undef) rfl (by kernel_rfl) (by kernel_rfl) (by kernel_rfl) (fun _ _ _ h => h) (Or.inr ⟨by rfl, rfl⟩) hHeld ?_
                            try simp only [Act.put, List.setIfInBounds_toArray, List.set_cons_zero, List.set_cons_succ]
                            refine wpAnyH_take (i := 12) (oi := { dst := some 303, op := Op.load 4 (Operand.tmp 302), type := 4, pos := "law.go:136", after := #[{ on := 11, ground := Ground.data }, { on := 8, ground := Ground.guard }], guard := some (8, false) }) (v := undef) rfl (by kernel_rfl) (by kernel_rfl) (by kernel_rfl) (fun _ _ _ h => h) (Or.inr ⟨by rfl, rfl⟩) hHeld ?_
                            try simp only [Act.put, List.setIfInBounds_toArray, List.set_cons_zero, List.set_cons_succ]
                            refine wpAnyH_take (i := 13) (oi := { dst := some 304, op := Op.unOp UnOp.not 4 (Operand.tmp 303), type := 4, pos := "law.go:136", after := #[{ on := 12, ground := Ground.data }, { on := 8, ground := Ground.guard }], guard := some (8, false) }) (v := undef) rfl (by kernel_rfl) (by kernel_rfl) (by kernel_rfl) (fun _ _ _ h => h) (Or.inr ⟨by rfl, rfl⟩) hHeld ?_
                            try simp only [Act.put, List.setIfInBounds_toArray, List.set_cons_zero, List.set_cons_succ]
                            refine wpAnyH_take (i := 14) (oi := { dst := some 305, op := Op.pick (Operand.tmp 299) (Operand.const (Value.bool true)) (Operand.tmp 304), type := 4, pos := "law.go:136", after := #[{ on := 8, ground := Ground.data }, { on := 13, ground := Ground.data }], guard := none }) (v := ?vztrue14) rfl (by kernel_rfl) (by kernel_rfl) (by kernel_rfl) (fun _ _ _ h => h) (Or.inl ⟨by rfl, ?hyztrue14⟩) hHeld ?_
                            case hyztrue14 => (intro w hSw; (try dsimp only at hSw); go_simp; (try with_reducible rfl))
                            try simp only [Act.put, List.setIfInBounds_toArray, List.set_cons_zero, List.set_cons_succ]
                            refine wpAnyH_take (i := 15) (oi := { dst := some 306, op := Op.binOp BinOp.neq 4 (Operand.tmp 294) (Operand.tmp 305) 4, type := 4, pos := "law.go:136", after := #[{ on := 3, ground := Ground.data }, { on := 14, ground := Ground.data }], guard := none }) (v := ?vztrue15) rfl (by kernel_rfl) (by kernel_rfl) (by kernel_rfl) (fun _ _ _ h => h) (Or.inl ⟨by rfl, ?hyztrue15⟩) hHeld ?_
                            case hyztrue15 => (intro w hSw; (try dsimp only at hSw); go_simp; (try with_reducible rfl))
                            try simp only [Act.put, List.setIfInBounds_toArray, List.set_cons_zero, List.set_cons_succ]
                            refine wpAnyH_take (i := 16) (oi := { dst := some 307, op := Op.move (Operand.tmp 306), type := 4, pos := "law.go:136", after := #[{ on := 15, ground := Ground.data }, { on := 8, ground := Ground.chain }], guard := none }) (v := ?vztrue16) rfl (by kernel_rfl) (by kernel_rfl) (by kernel_rfl) (fun _ _ _ h => h) (Or.inl ⟨by rfl, ?hyztrue16⟩) hHeld ?_
                            case hyztrue16 => (intro w hSw; (try dsimp only at hSw); go_simp; (try with_reducible rfl))
                            try simp only [Act.put, List.setIfInBounds_toArray, List.set_cons_zero, List.set_cons_succ]
                            refine wpAnyH_take (i := 17) (oi := { dst := some 308, op := Op.move (Operand.tmp 27), type := 24, pos := "law.go:136", after := #[{ on := 16, ground := Ground.guard }], guard := some (16, false) }) (v := ?vztrue17) rfl (by kernel_rfl) (by kernel_rfl) (by kernel_rfl) (fun _ _ _ h => h) (Or.inl ⟨by rfl, ?hyztrue17⟩) hHeld ?_
                            case hyztrue17 => (intro w hSw; (try dsimp only at hSw); go_simp; (try with_reducible rfl))
                            try simp only [Act.put, List.setIfInBounds_toArray, List.set_cons_zero, List.set_cons_succ]
                            refine wpAnyH_take (i := 18) (oi := { dst := some 309, op := Op.move (Operand.tmp 10), type := 3, pos := "law.go:136", after := #[{ on := 16, ground := Ground.guard }], guard := some (16, false) }) (v := ?vztrue18) rfl (by kernel_rfl) (by kernel_rfl) (by kernel_rfl) (fun _ _ _ h => h) (Or.inl ⟨by rfl, ?hyztrue18⟩) hHeld ?_
                            case hyztrue18 => (intro w hSw; (try dsimp only at hSw); go_simp; (try with_reducible rfl))
                            try simp only [Act.put, List.setIfInBounds_toArray, List.set_cons_zero, List.set_cons_succ]
                            refine wpAnyH_take (i := 19) (oi := { dst := some 310, op := Op.move (Operand.tmp 34), type := 3, pos := "law.go:136", after := #[{ on := 16, ground := Ground.guard }], guard := some (16, false) }) (v := ?vztrue19) rfl (by kernel_rfl) (by kernel_rfl) (by kernel_rfl) (fun _ _ _ h => h) (Or.inl ⟨by rfl, ?hyztrue19⟩) hHeld ?_
                            case hyztrue19 => (intro w hSw; (try dsimp only at hSw); go_simp; (try with_reducible rfl))
                            try simp only [Act.put, List.setIfInBounds_toArray, List.set_cons_zero, List.set_cons_succ]
                            refine wpAnyH_take (i := 20) (oi := { dst := some 311, op := Op.binOp BinOp.mul 3 (Operand.const (Value.int IntKind.i64 3)) (Operand.tmp 310) 3, type := 3, pos := "law.go:136", after := #[{ on := 19, ground := Ground.data }, { on := 16, ground := Ground.guard }], guard := some (16, false) }) (v := ?vztrue20) rfl (by kernel_rfl) (by kernel_rfl) (by kernel_rfl) (fun _ _ _ h => h) (Or.inl ⟨by rfl, ?hyztrue20⟩) hHeld ?_
                            case hyztrue20 => (intro w hSw; (try dsimp only at hSw); go_simp; (try with_reducible rfl))
                            try simp only [Act.put, List.setIfInBounds_toArray, List.set_cons_zero, List.set_cons_succ]
                            refine wpAnyH_take (i := 21) (oi := { dst := some 312, op := Op.binOp BinOp.add 3 (Operand.tmp 309) (Operand.tmp 311) 3, type := 3, pos := "law.go:136", after := #[{ on := 18, ground := Ground.data }, { on := 20, ground := Ground.data }, { on := 16, ground := Ground.guard }], guard := some (16, false) }) (v := ?vztrue21) rfl (by kernel_rfl) (by kernel_rfl) (by kernel_rfl) (fun _ _ _ h => h) (Or.inl ⟨by rfl, ?hyztrue21⟩) hHeld ?_
                            case hyztrue21 => (intro w hSw; (try dsimp only at hSw); go_simp; (try with_reducible rfl))
                            try simp only [Act.put, List.setIfInBounds_toArray, List.set_cons_zero, List.set_cons_succ]
                            refine wpAnyH_take (i := 22) (oi := { dst := some 313, op := Op.binOp BinOp.add 3 (Operand.tmp 312) (Operand.const (Value.int IntKind.i64 2)) 3, type := 3, pos := "law.go:136", after := #[{ on := 21, ground := Ground.data }, { on := 16, ground := Ground.guard }], guard := some (16, false) }) (v := ?vztrue22) rfl (by kernel_rfl) (by kernel_rfl) (by kernel_rfl) (fun _ _ _ h => h) (Or.inl ⟨by rfl, ?hyztrue22⟩) hHeld ?_
                            case hyztrue22 => (intro w hSw; (try dsimp only at hSw); go_simp; (try with_reducible rfl))
                            try simp only [Act.put, List.setIfInBounds_toArray, List.set_cons_zero, List.set_cons_succ]
                            refine wpAnyH_take (i := 23) (oi := { dst := some 314, op := Op.indexAddr 24 (Operand.tmp 308) (Operand.tmp 313), type := 0, pos := "law.go:136", after := #[{ on := 17, ground := Ground.data }, { on := 22, ground := Ground.data }, { on := 16, ground := Ground.guard }], guard := some (16, false) }) (v := ?vztrue23) rfl (by kernel_rfl) (by kernel_rfl) (by kernel_rfl) (fun _ _ _ h => h) (Or.inl ⟨by rfl, ?hyztrue23⟩) hHeld ?_
                            case hyztrue23 => (intro w hSw; (try dsimp only at hSw); go_simp; (try with_reducible rfl))
                            try simp only [Act.put, List.setIfInBounds_toArray, List.set_cons_zero, List.set_cons_succ]
                            refine wpAnyH_take (i := 24) (oi := { dst := some 315, op := Op.load 35 (Operand.tmp 314), type := 35, pos := "law.go:136", after := #[{ on := 23, ground := Ground.data }, { on := 16, ground := Ground.guard }], guard := some (16, false) }) (v := ?vztrue24) rfl (by kernel_rfl) (by kernel_rfl) (by kernel_rfl) (fun _ _ _ h => h) (Or.inl ⟨by rfl, ?hyztrue24⟩) hHeld ?_
                            case hyztrue24 => (intro w hSw; (try dsimp only at hSw); go_simp; (try with_reducible rfl))
                            try simp only [Act.put, List.setIfInBounds_toArray, List.set_cons_zero, List.set_cons_succ]
                            refine wpAnyH_take (i := 25) (oi := { dst := some 316, op := Op.binOp BinOp.neq 35 (Operand.tmp 315) (Operand.const (Value.int IntKind.u64 0)) 35, type := 4, pos := "law.go:136", after := #[{ on := 24, ground := Ground.data }, { on := 16, ground := Ground.guard }], guard := some (16, false) }) (v := ?vztrue25) rfl (by kernel_rfl) (by kernel_rfl) (by kernel_rfl) (fun _ _ _ h => h) (Or.inl ⟨by rfl, ?hyztrue25⟩) hHeld ?_
                            case hyztrue25 => (intro w hSw; (try dsimp only at hSw); go_simp; (try with_reducible rfl))
                            try simp only [Act.put, List.setIfInBounds_toArray, List.set_cons_zero, List.set_cons_succ]
                            refine wpAnyH_take (i := 26) (oi := { dst := some 317, op := Op.pick (Operand.tmp 307) (Operand.const (Value.bool true)) (Operand.tmp 316), type := 4, pos := "law.go:136", after := #[{ on := 16, ground := Ground.data }, { on := 25, ground := Ground.data }], guard := none }) (v := ?vztrue26) rfl (by kernel_rfl) (by kernel_rfl) (by kernel_rfl) (fun _ _ _ h => h) (Or.inl ⟨by rfl, ?hyztrue26⟩) hHeld ?_
                            case hyztrue26 => (intro w hSw; (try dsimp only at hSw); go_simp; (try with_reducible rfl))
                            try simp only [Act.put, List.setIfInBounds_toArray, List.set_cons_zero, List.set_cons_succ]
                            refine wpAnyH_done (by kernel_rfl) ?_ _
                            clear hHeld
                            clear HB cq cr cs ck x0 x1 x2 x3
                            generalize wr.drew = wd at *
                            go_wp2_with fail
                            go_roundw
                            case rel => exact ⟨i + 1, by go_num, by omega, HB2⟩
                            case measure => simp [intOf]; omega
                        · obtain rfl : N = i := by omega
                          obtain ⟨x0, x1, x2, x3⟩ := (HX1.out.below HYb.out.ck.old).below HB.out
                          (try dsimp only at x0 x1 x2 x3)
                          have HE := Lib.hid (belowOn HB1.out (belowOn HYb.out.ck.old HB.out))
                          clear HB
                          go_wp2_with fail
                          go_ret
                          exact ⟨rfl, HE.out⟩
end Go.Proofs.YthdcapkchjamoaaDoor
