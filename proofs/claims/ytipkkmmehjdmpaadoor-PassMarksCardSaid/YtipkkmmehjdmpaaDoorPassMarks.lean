/- PassMarks answers true: with nobody else about, passes come to an end, one more of them than there are cells at most; then no cell is grey, no cell that became black has a white one, and nothing was changed but colours, white to grey or black, grey to black, and dirty. -/
import Derived.Test.YtipkkmmehjdmpaaDoorPassAwake
import Derived.Test.YtipkkmmehjdmpaaDoorPassPure
import Derived.Test.YtipkkmmehjdmpaaDoorPassRefGreys
import Derived.Test.YtipkkmmehjdmpaaDoorColWk
namespace Go.Proofs.YtipkkmmehjdmpaaDoor
open Go Go.RowKit
set_option maxRecDepth 100000
attribute [local go_sem ↓] Go.wp_at_zero Go.wp_at_succ

/-- A place that is a colour's, among all words. -/
theorem not_col {C : Cf} (hC : CfOK C) {k : Nat} (h : ¬ (5 + C.b + C.d + C.b * C.c ≤ (k : Int) ∧ ((k : Int) - (5 + C.b + C.d + C.b * C.c)) % 3 = 2)) : (spotF C.b C.c C.d k).1 ≠ 6 := by
  have hr := hC.right
  have hp := hr.prod
  unfold Right at hr
  unfold spotF
  split
  · simp
  · split
    · simp
    · split
      · simp
      · split
        · simp
        · intro e
          simp only at e
          omega
theorem col_place {C : Cf} (hC : CfOK C) {k : Nat} (hn : k < C.n) (hb : 5 + C.b + C.d + C.b * C.c ≤ (k : Int)) (hr : ((k : Int) - (5 + C.b + C.d + C.b * C.c)) % 3 = 2) :
    ∃ i : Nat, (i : Int) < C.a ∧ colI C i = k ∧ carI C i + 2 = k ∧ cdrI C i + 1 = k := by
  have hsz := hC.size
  have hR := hC.right
  have hp := hR.prod
  have hq := hR
  unfold Right at hq
  obtain ⟨i, hi⟩ : ∃ i : Nat, (i : Int) = ((k : Int) - (5 + C.b + C.d + C.b * C.c)) / 3 := ⟨(((k : Int) - (5 + C.b + C.d + C.b * C.c)) / 3).toNat, by omega⟩
  have hlt : (i : Int) < C.a := by omega
  have e : ∀ q : Int, partP C.a C.b C.c C.d q i = 5 + C.b + C.d + C.b * C.c + 3 * (i : Int) + q := fun q => by unfold partP; rw [if_pos ⟨⟨by omega, hlt⟩, hR⟩]
  refine ⟨i, hlt, ?_, ?_, ?_⟩
  · unfold colI; rw [e]; omega
  · unfold carI; rw [e]; omega
  · unfold cdrI; rw [e]; omega
/-- Where a cell is looked at stays among the cells. -/
theorem passS_c {C : Cf} {s : Dy} {x : Co} (h0 : 0 ≤ x.c) (h1 : x.c ≤ C.a) (h4 : 4 ≤ x.l → x.l ≤ 9 → x.c < C.a) (ha : 0 ≤ C.a) : 0 ≤ (passS C s x).2.1.c ∧ (passS C s x).2.1.c ≤ C.a := by
  have hn : ∀ y : Co, y.c = x.c → x.c < C.a → 0 ≤ (nextCell C y).c ∧ (nextCell C y).c ≤ C.a := fun y e hl => by
    unfold nextCell
    split
    · dsimp only; omega
    · split <;> (dsimp only; omega)
  unfold passS
  split
  · dsimp only; omega
  split
  · show 0 ≤ (if _ then _ else _ : Co).c ∧ (if _ then _ else _ : Co).c ≤ _
    split
    · dsimp only; omega
    · exact hn x rfl (h4 (by omega) (by omega))
  split
  · dsimp only; omega
  split
  · dsimp only; omega
  split
  · dsimp only; omega
  split
  · dsimp only; omega
  split
  · exact hn _ rfl (h4 (by omega) (by omega))
  · dsimp only; omega
theorem PsSt.lines {C : Cf} {f0 f : Nat → Int} {n P : Nat} {L : List Nat} {x : Co} (h : PsSt C f0 f n P L x) : 3 ≤ x.l ∧ x.l ≤ 10 ∧ (4 ≤ x.l → x.l ≤ 9 → x.c < C.a) ∧ P ≤ L.length + 1 ∨ x.l = 10 := by
  rcases h.line with ⟨e, hP, _⟩ | ⟨g1, g2, _, c0, c1, _, _, hP, _⟩ | ⟨e, _⟩
  · exact .inl ⟨by omega, by omega, fun _ _ => by omega, by omega⟩
  · exact .inl ⟨by omega, by omega, fun _ _ => c1, hP⟩
  · exact .inr e
set_option maxHeartbeats 12800000 in
theorem marks_any (a b c d : Int) (v0 : Option Addr) (n c0 : Nat) (f : Nat → Int) (w : World) (hS : SpansAt w) (hG : Given w v0 n c0 f) :
    Calls Tryd.prog 5 #[.agg #[.int .i64 a, .int .i64 b, .int .i64 c, .int .i64 d], .slice v0 n c0] w fun e w' => e = .returned (.bool true) ∧ Below w.heap.size w w' := by
  have HB0 := Lib.hid (below_new w (.cells #[.int .i64 a, .int .i64 b, .int .i64 c, .int .i64 d] 23))
  have HX0 := Lib.hid (BoxAt.new w a b c d 23)
  have HS := Lib.hid hS; have HG := Lib.hid hG
  clear hS hG
  obtain ⟨x0, x1, x2, x3⟩ := HX0.out
  go_enter Tryd.func5, Tryd.ntmps5
  go_wp2_with fail
  refine (awake_c _ (HS.out.below HB0.out)).mono ?_
  rintro e W1 ⟨rfl, hW⟩
  have HB1 := Lib.hid (belowOn HB0.out hW)
  have HX1 := Lib.hid (HX0.out.below hW)
  clear hW HB0 HX0 x0 x1 x2 x3
  obtain ⟨x0, x1, x2, x3⟩ := HX1.out
  go_wp2_with fail
  refine (Both_any a b c d v0 n c0 f _ (HS.out.below HB1.out) ⟨HG.out.1, HG.out.2.1.below HB1.out, HG.out.2.2⟩).mono ?_
  rintro e W2 (⟨_, rfl, hW⟩ | ⟨hok, P, rfl, hT⟩)
  · have HB2 := Lib.hid (belowOn HB1.out hW)
    clear hW HX1 HB1 x0 x1 x2 x3
    go_wp2_with fail
    go_ret
    exact ⟨rfl, HB2.out⟩
  have hC : CfOK ⟨n, a, b, c, d⟩ := ⟨hok.2.1, hok.2.2⟩
  have HU : Hid (∀ j, U64 (f j)) := Lib.hid HG.out.2.2.1
  have hn20 : n ≤ 20000 := by have := hok.2.1.prod; have h1 := hok.2.2; have h2 := hok.2.1; unfold Right at h2; omega
  have HK := Lib.hid hC; have HR := Lib.hid hok.2.1
  have hn0 : 0 < n := hC.pos
  have HS1 := Lib.hid (HS.out.below HB1.out)
  have HW1 := Lib.hid (HG.out.2.1.below HB1.out)
  have lH : W1.heap.size ≤ P.H := hT.both.lH
  have lG : W1.heap.size ≤ P.G := hT.both.lG
  have hH := hT.hand
  have hold := hT.old
  generalize P.H = H at *
  generalize P.A = A at *
  generalize P.G = G at *
  generalize P.X = X at *
  have HH := Lib.hid hH; have HO := Lib.hid hold
  clear hok hC HG HS hH hold P x0 x1 x2 x3 hT
  have ha4 : 2 ≤ a ∧ a ≤ 4096 := by have := HK.out.a4; exact ⟨this.1, this.2.1⟩
  obtain ⟨N, rfl⟩ : ∃ N : Nat, a = (N : Int) := ⟨a.toNat, by omega⟩
  obtain ⟨M, hM⟩ : ∃ M : Nat, (N + 1) * (6 * N + 1) = M := ⟨_, rfl⟩
  have hM2 : M ≤ 200000000 := by rw [← hM]; exact Nat.le_trans (Nat.mul_le_mul (show N + 1 ≤ 4097 by omega) (show 6 * N + 1 ≤ 24577 by omega)) (by decide)
  have hMi : ((N : Int) + 1) * (6 * (N : Int) + 1) = (M : Int) := by rw [← hM, Int.natCast_mul]; rfl
  obtain ⟨x0, x1, x2, x3⟩ := HX1.out.below HO.out
  have HT0 := Lib.hid (CkW.first (C := ⟨n, N, b, c, d⟩) (s := ⟨f, 0, 0, 0, 0, 0⟩) HO.out HH.out lH lG ⟨3, 0, 0, 0, 0, 0, false, 0, 0⟩)
  clear HH HO
  go_wp2_with fail
  clear x0 x1 x2 x3
  generalize W2.alloc (.cells #[.int .i64 3, .int .i64 0, .int .i64 0, .int .i64 0, .int .u64 0, .int .u64 0, .bool false, .int .i64 0, .int .i64 0] 28) = W5 at *
  generalize W2.heap.size = B at *
  have HMM := Lib.hid hM
  clear hM
  go_loopw [9, 10] (fun pv nv wr => ∃ (P k : Nat) (L : List Nat) (s : Dy) (x : Co), pv = .int .i64 P ∧ nv = .int .i64 k ∧ k ≤ M + 1 ∧ P ≤ N + 1 ∧ Hid (CkW W1 wr H A G B ⟨n, N, b, c, d⟩ s x) ∧ Hid (PsSt ⟨n, N, b, c, d⟩ f s.f k P L x) ∧ Hid (s.U ∧ x.U) ∧ Hid (0 ≤ x.c ∧ x.c ≤ (N : Int))) (fun _ nv _ => M + 1 - (intOf nv).toNat)
  case atStart => exact ⟨0, 0, [], ⟨f, 0, 0, 0, 0, 0⟩, ⟨3, 0, 0, 0, 0, 0, false, 0, 0⟩, rfl, rfl, by omega, by omega, HT0, Lib.hid (PsSt.first _ f _ rfl), Lib.hid ⟨HU.out, u64_zero, u64_zero⟩, Lib.hid (by dsimp only; omega)⟩
  case round =>
    clear HT0
    obtain ⟨P, k, L, s, x, rfl, rfl, hk, hP, HT, HQ, HV, HC⟩ := hrel
    by_cases hl : x.l = 10
    · obtain ⟨hd2, hgr⟩ : s.f 2 = 0 ∧ ∀ i : Nat, (i : Int) < (N : Int) → s.f (colI ⟨n, N, b, c, d⟩ i) ≠ 1 := by
        rcases HQ.out.line with ⟨h, _⟩ | ⟨_, h, _⟩ | ⟨_, _, h2, _, h4⟩
        · omega
        · omega
        · exact ⟨h2, h4⟩
      have hgn : greysR ⟨n, N, b, c, d⟩ s.f = [] := by unfold greysR; rw [if_pos HK.out]; exact greysL_none (fun i hi => hgr i (by dsimp only at hi; omega))
      have HGr : Hid (∀ W Z, RowAt W Z 26 n s.f → Calls Tryd.prog 16 #[.agg #[.int .i64 (N : Int), .int .i64 b, .int .i64 c, .int .i64 d], .slice (some ⟨Z, 0, none⟩) n n] W (NumsPost W [])) := Lib.hid (fun W Z h => by rw [← hgn]; exact rgreys_any (N : Int) b c d _ n n s.f HV.out.1 W h.words)
      have HDn : Hid (∀ k : Nat, k < n → ((spotF b c d k).1 ≠ 6 ∧ (k = 2 ∨ s.f k = f k)) ∨ ∃ i : Nat, (i : Int) < (N : Int) ∧ colI ⟨n, N, b, c, d⟩ i = k ∧ carI ⟨n, N, b, c, d⟩ i + 2 = k ∧ cdrI ⟨n, N, b, c, d⟩ i + 1 = k ∧ (s.f k = f k ∨ ((f k = 0 ∨ f k = 1) ∧ s.f k = 2 ∧ s.f (k - 2) = f (k - 2) ∧ s.f (k - 1) = f (k - 1) ∧ ToCol ⟨n, N, b, c, d⟩ s.f (f (k - 2)) ∧ ToCol ⟨n, N, b, c, d⟩ s.f (f (k - 1))))) := Lib.hid (fun k hk => by
        by_cases hcp : 5 + b + d + b * c ≤ (k : Int) ∧ ((k : Int) - (5 + b + d + b * c)) % 3 = 2
        · obtain ⟨i, hi, e1, e2, e3⟩ := col_place HK.out (k := k) hk hcp.1 hcp.2
          refine .inr ⟨i, hi, e1, e2, e3, ?_⟩
          have hc := HQ.out.cols i hi
          rw [e1] at hc
          rcases hc with h | ⟨_, h⟩ | ⟨h1, h2, h3⟩
          · exact .inl h
          · exact absurd h (by rw [← e1]; exact hgr i hi)
          · obtain ⟨t1, t2⟩ := HQ.out.edges i h3
            have n1 := HQ.out.near (carI ⟨n, N, b, c, d⟩ i) (by rw [(carI_sp HK.out hi).2.2]; simp) (fun e => by have := (carI_sp HK.out hi).2.2; rw [e, sp_once _ _ _ (by omega)] at this; have := congrArg (·.1) this; simp at this)
            have n2 := HQ.out.near (cdrI ⟨n, N, b, c, d⟩ i) (by rw [(cdrI_sp HK.out hi).2.2]; simp) (fun e => by have := (cdrI_sp HK.out hi).2.2; rw [e, sp_once _ _ _ (by omega)] at this; have := congrArg (·.1) this; simp at this)
            rw [show carI ⟨n, N, b, c, d⟩ i = k - 2 by omega] at t1 n1
            rw [show cdrI ⟨n, N, b, c, d⟩ i = k - 1 by omega] at t2 n2
            exact .inr ⟨h1, h2, n1, n2, t1, t2⟩
        · have h6 := not_col HK.out (k := k) hcp
          refine .inl ⟨h6, ?_⟩
          by_cases e : k = 2
          · exact .inl e
          · exact .inr (HQ.out.near k h6 e))
      have HD2 := Lib.hid hd2
      obtain ⟨l, j, xc, m, xa, p, fd, tl, cy⟩ := x
      dsimp only at hl
      subst hl
      clear hd2 hgr hgn HQ HC HV hk hP
      have h0 := HT.out.hand.cells.1
      obtain ⟨b0, b1, b2, b3, b4, b5, b6, b7, b8, bf⟩ := HT.out.cells9
      go_wp2_with fail
      refine (All_c HT.out.hand.ar hn20).mono ?_
      rintro e W6 ⟨rfl, hrow, hb⟩
      have HZ : Hid (RnB w W6 wr.heap.size w.heap.size ⟨n, N, b, c, d⟩ v0 f s.f) := Lib.hid ⟨belowOn HB1.out (belowOn HT.out.old hb), hrow, HW1.out.below (belowOn HT.out.old hb), HX1.out.below (belowOn HT.out.old hb)⟩
      generalize s.f = g at *
      generalize wr.heap.size = Z at *
      clear hrow hb HT h0 b0 b1 b2 b3 b4 b5 b6 b7 b8 bf
      have c2 := HZ.out.now.cell (j := 2) (by have := HK.out.four; dsimp only at this ⊢; omega)
      rw [HD2.out] at c2
      have hn2 : (2 : Int) < (n : Int) := by have := HK.out.four; dsimp only at this; omega
      have hnn : ((n : Int) != (n : Int)) = false := by simp
      obtain ⟨x0, x1, x2, x3⟩ := HZ.out.box
      dsimp only at x0 x1 x2 x3
      go_wp2_with fail
      refine (HGr.out _ _ HZ.out.now).mono ?_
      rintro e W7 ⟨vv, rfl, hrow, hb⟩
      obtain ⟨va, vc, rfl, _⟩ := IntsAt.own hrow
      have HZ7 := Lib.hid (HZ.out.below hb)
      clear hrow hb HZ HGr c2 hn2 hnn x0 x1 x2 x3
      rw [show ([] : List Nat).length = 0 from rfl]
      obtain ⟨x0, x1, x2, x3⟩ := HZ7.out.box
      dsimp only at x0 x1 x2 x3
      obtain ⟨bz, off, rfl, _⟩ := HZ7.out.was.at' hn0
      obtain ⟨base, hbase⟩ : ∃ base : Int, 5 + b + d + b * c = base := ⟨_, rfl⟩
      have hsz := HK.out.size
      dsimp only at hsz
      have hbn : (n : Int) - 3 * (N : Int) = base := by omega
      have hwa : IntKind.i64.wrap (3 * (N : Int)) = 3 * (N : Int) := IntWalk.i64_in _ (by omega)
      have hb0 : 6 ≤ base ∧ base ≤ 20000 := by have := HR.out.prod; have h2 := HR.out; unfold Right at h2; omega
      have hwb : IntKind.i64.wrap ((n : Int) - 3 * (N : Int)) = base := by rw [hbn]; exact IntWalk.i64_in _ (by omega)
      have HRem : Hid (∀ k : Nat, k < n → (¬ (base ≤ (k : Int) ∧ ((k : Int) - base) % 3 = 2) ∧ (k = 2 ∨ g k = f k)) ∨ (base ≤ (k : Int) ∧ ((k : Int) - base) % 3 = 2 ∧ (g k = f k ∨ ((f k = 0 ∨ f k = 1) ∧ g k = 2 ∧ g (k - 2) = f (k - 2) ∧ g (k - 1) = f (k - 1) ∧ ToCol ⟨n, N, b, c, d⟩ g (f (k - 2)) ∧ ToCol ⟨n, N, b, c, d⟩ g (f (k - 1)))))) := Lib.hid (fun k hk => by
        rw [← hbase]
        rcases HDn.out k hk with ⟨h6, h⟩ | ⟨i, hi, e1, e2, e3, h⟩
        · refine .inl ⟨fun hc => h6 ?_, h⟩
          obtain ⟨i, hi, e1, _⟩ := col_place HK.out (k := k) hk hc.1 hc.2
          have := (colI_sp HK.out hi).2.2
          rw [e1] at this
          exact congrArg (·.1) this
        · have h0 := (colI_sp HK.out hi).1
          have hp : partP (N : Int) b c d 2 (i : Int) = 5 + b + d + b * c + 3 * (i : Int) + 2 := by unfold partP; rw [if_pos ⟨⟨by omega, hi⟩, HR.out⟩]
          dsimp only at h0
          rw [hp, e1] at h0
          exact .inr ⟨by omega, by omega, h⟩)
      clear HDn hsz hbn hbase
      go_wp2_with fail
      clear x0 x1 x2 x3 hwa hwb
      have HZ := HZ7
      clear HZ7
      go_loopw [15] (fun kv wr => ∃ k : Nat, kv = .int .i64 k ∧ k ≤ n ∧ Hid (RnB w wr Z w.heap.size ⟨n, N, b, c, d⟩ (some ⟨bz, off, none⟩) f g)) (fun kv _ => n - (intOf kv).toNat)
      case atStart => exact ⟨0, rfl, by omega, HZ⟩
      case round =>
        clear HZ
        obtain ⟨k, rfl, hk, HZ⟩ := hrel
        by_cases hkn : k < n
        · have cz : wr.drew.cell? ⟨Z, k, none⟩ = some (.int .u64 (g k)) := HZ.out.now.cell (j := k) hkn
          have cw : wr.drew.cell? ⟨bz, off + k, none⟩ = some (.int .u64 (f k)) := by
            obtain ⟨b', off', e, h⟩ := HZ.out.was.at' (k := k) hkn
            obtain ⟨rfl, rfl⟩ : bz = b' ∧ off = off' := by simpa using e
            exact h
          have hk0 : (0 : Int) ≤ (k : Int) := by omega
          have hkI : (k : Int) < (n : Int) := by omega
          have hk1 : IntKind.i64.wrap ((k : Int) + 1) = (k : Int) + 1 := IntWalk.i64_in _ (by omega)
          have hw3 : IntKind.i64.wrap ((k : Int) - base) = (k : Int) - base := IntWalk.i64_in _ (by omega)
          rcases HRem.out k hkn with ⟨hno, hkk⟩ | ⟨hbk, hrem, hkk⟩
          · by_cases hk2 : k = 2
            · have hbk : ¬ base ≤ (k : Int) := by omega
              clear hkk
              have d1 : decide (base ≤ (k : Int)) = false := decide_eq_false hbk
              clear hno hbk
              have hne2 : ((k : Int) != 2) = false := by simp; omega
              generalize g k = gk at *
              generalize f k = fk at *
              clear hk2
              go_wp2_with fail
              refine wp_region_held_drew (S := (fun w' => w'.cell? ⟨Z, k, none⟩ = some (.int .u64 gk) ∧ w'.cell? ⟨bz, off + k, none⟩ = some (.int .u64 fk))) (by kernel_rfl) ?_ (fun hHeld => ?_)
              · exact ⟨cz, cw⟩
              refine wpAnyH_take (i := 0) (oi := { dst := some 116, op := Op.move (Operand.tmp 16), type := 4, pos := "law.go:91", after := #[], guard := none }) (v := ?vax10) rfl (by kernel_rfl) (by kernel_rfl) (by kernel_rfl) (fun _ _ _ h => h) (Or.inl ⟨by rfl, ?hyax10⟩) hHeld ?_
              case hyax10 => (intro w hSw; (try dsimp only at hSw); go_simp; (try with_reducible rfl))
              try simp only [Act.put, List.setIfInBounds_toArray, List.set_cons_zero, List.set_cons_succ]
              refine wpAnyH_take (i := 1) (oi := { dst := some 117, op := Op.unOp UnOp.not 4 (Operand.tmp 116), type := 4, pos := "law.go:91", after := #[{ on := 0, ground := Ground.data }], guard := none }) (v := ?vax11) rfl (by kernel_rfl) (by kernel_rfl) (by kernel_rfl) (fun _ _ _ h => h) (Or.inl ⟨by rfl, ?hyax11⟩) hHeld ?_
              case hyax11 => (intro w hSw; (try dsimp only at hSw); go_simp; (try with_reducible rfl))
              try simp only [Act.put, List.setIfInBounds_toArray, List.set_cons_zero, List.set_cons_succ]
              refine wpAnyH_take (i := 2) (oi := { dst := some 118, op := Op.move (Operand.tmp 117), type := 4, pos := "law.go:91", after := #[{ on := 1, ground := Ground.data }], guard := none }) (v := ?vax12) rfl (by kernel_rfl) (by kernel_rfl) (by kernel_rfl) (fun _ _ _ h => h) (Or.inl ⟨by rfl, ?hyax12⟩) hHeld ?_
              case hyax12 => (intro w hSw; (try dsimp only at hSw); go_simp; (try with_reducible rfl))
              try simp only [Act.put, List.setIfInBounds_toArray, List.set_cons_zero, List.set_cons_succ]
              refine wpAnyH_take (i := 3) (oi := { dst := some 119, op := Op.move (Operand.tmp 15), type := 3, pos := "law.go:91", after := #[{ on := 2, ground := Ground.guard }], guard := some (2, true) }) (v := ?vax13) rfl (by kernel_rfl) (by kernel_rfl) (by kernel_rfl) (fun _ _ _ h => h) (Or.inl ⟨by rfl, ?hyax13⟩) hHeld ?_
              case hyax13 => (intro w hSw; (try dsimp only at hSw); go_simp; (try with_reducible rfl))
              try simp only [Act.put, List.setIfInBounds_toArray, List.set_cons_zero, List.set_cons_succ]
              refine wpAnyH_take (i := 4) (oi := { dst := some 120, op := Op.binOp BinOp.neq 3 (Operand.tmp 119) (Operand.const (Value.int IntKind.i64 2)) 3, type := 4, pos := "law.go:91", after := #[{ on := 3, ground := Ground.data }, { on := 2, ground := Ground.guard }], guard := some (2, true) }) (v := ?vax14) rfl (by kernel_rfl) (by kernel_rfl) (by kernel_rfl) (fun _ _ _ h => h) (Or.inl ⟨by rfl, ?hyax14⟩) hHeld ?_
              case hyax14 => (intro w hSw; (try dsimp only at hSw); go_simp; (try with_reducible rfl))
              try simp only [Act.put, List.setIfInBounds_toArray, List.set_cons_zero, List.set_cons_succ]
              refine wpAnyH_take (i := 5) (oi := { dst := some 121, op := Op.pick (Operand.tmp 118) (Operand.tmp 120) (Operand.const (Value.bool false)), type := 4, pos := "law.go:91", after := #[{ on := 2, ground := Ground.data }, { on := 4, ground := Ground.data }], guard := none }) (v := ?vax15) rfl (by kernel_rfl) (by kernel_rfl) (by kernel_rfl) (fun _ _ _ h => h) (Or.inl ⟨by rfl, ?hyax15⟩) hHeld ?_
              case hyax15 => (intro w hSw; (try dsimp only at hSw); go_simp; (try with_reducible rfl))
              try simp only [Act.put, List.setIfInBounds_toArray, List.set_cons_zero, List.set_cons_succ]
              refine wpAnyH_take (i := 6) (oi := { dst := some 122, op := Op.move (Operand.tmp 121), type := 4, pos := "law.go:91", after := #[{ on := 5, ground := Ground.data }, { on := 2, ground := Ground.chain }], guard := none }) (v := ?vax16) rfl (by kernel_rfl) (by kernel_rfl) (by kernel_rfl) (fun _ _ _ h => h) (Or.inl ⟨by rfl, ?hyax16⟩) hHeld ?_
              case hyax16 => (intro w hSw; (try dsimp only at hSw); go_simp; (try with_reducible rfl))
              try simp only [Act.put, List.setIfInBounds_toArray, List.set_cons_zero, List.set_cons_succ]
              refine wpAnyH_take (i := 7) (oi := { dst := some 123, op := Op.move (Operand.tmp 13), type := 24, pos := "law.go:91", after := #[{ on := 6, ground := Ground.guard }], guard := some (6, true) }) (v := undef) rfl (by kernel_rfl) (by kernel_rfl) (by kernel_rfl) (fun _ _ _ h => h) (Or.inr ⟨by rfl, rfl⟩) hHeld ?_
              try simp only [Act.put, List.setIfInBounds_toArray, List.set_cons_zero, List.set_cons_succ]
              refine wpAnyH_take (i := 8) (oi := { dst := some 124, op := Op.move (Operand.tmp 15), type := 3, pos := "law.go:91", after := #[{ on := 6, ground := Ground.guard }], guard := some (6, true) }) (v := undef) rfl (by kernel_rfl) (by kernel_rfl) (by kernel_rfl) (fun _ _ _ h => h) (Or.inr ⟨by rfl, rfl⟩) hHeld ?_
              try simp only [Act.put, List.setIfInBounds_toArray, List.set_cons_zero, List.set_cons_succ]
              refine wpAnyH_take (i := 9) (oi := { dst := some 125, op := Op.indexAddr 24 (Operand.tmp 123) (Operand.tmp 124), type := 0, pos := "law.go:91", after := #[{ on := 7, ground := Ground.data }, { on := 8, ground := Ground.data }, { on := 6, ground := Ground.guard }], guard := some (6, true) }) (v := undef) rfl (by kernel_rfl) (by kernel_rfl) (by kernel_rfl) (fun _ _ _ h => h) (Or.inr ⟨by rfl, rfl⟩) hHeld ?_
              try simp only [Act.put, List.setIfInBounds_toArray, List.set_cons_zero, List.set_cons_succ]
              refine wpAnyH_take (i := 10) (oi := { dst := some 126, op := Op.load 26 (Operand.tmp 125), type := 26, pos := "law.go:91", after := #[{ on := 9, ground := Ground.data }, { on := 6, ground := Ground.guard }], guard := some (6, true) }) (v := undef) rfl (by kernel_rfl) (by kernel_rfl) (by kernel_rfl) (fun _ _ _ h => h) (Or.inr ⟨by rfl, rfl⟩) hHeld ?_
              try simp only [Act.put, List.setIfInBounds_toArray, List.set_cons_zero, List.set_cons_succ]
              refine wpAnyH_take (i := 11) (oi := { dst := some 127, op := Op.move (Operand.tmp 1), type := 24, pos := "law.go:91", after := #[{ on := 6, ground := Ground.guard }], guard := some (6, true) }) (v := undef) rfl (by kernel_rfl) (by kernel_rfl) (by kernel_rfl) (fun _ _ _ h => h) (Or.inr ⟨by rfl, rfl⟩) hHeld ?_
              try simp only [Act.put, List.setIfInBounds_toArray, List.set_cons_zero, List.set_cons_succ]
              refine wpAnyH_take (i := 12) (oi := { dst := some 128, op := Op.move (Operand.tmp 15), type := 3, pos := "law.go:91", after := #[{ on := 6, ground := Ground.guard }], guard := some (6, true) }) (v := undef) rfl (by kernel_rfl) (by kernel_rfl) (by kernel_rfl) (fun _ _ _ h => h) (Or.inr ⟨by rfl, rfl⟩) hHeld ?_
              try simp only [Act.put, List.setIfInBounds_toArray, List.set_cons_zero, List.set_cons_succ]
              refine wpAnyH_take (i := 13) (oi := { dst := some 129, op := Op.indexAddr 24 (Operand.tmp 127) (Operand.tmp 128), type := 0, pos := "law.go:91", after := #[{ on := 11, ground := Ground.data }, { on := 12, ground := Ground.data }, { on := 6, ground := Ground.guard }], guard := some (6, true) }) (v := undef) rfl (by kernel_rfl) (by kernel_rfl) (by kernel_rfl) (fun _ _ _ h => h) (Or.inr ⟨by rfl, rfl⟩) hHeld ?_
              try simp only [Act.put, List.setIfInBounds_toArray, List.set_cons_zero, List.set_cons_succ]
              refine wpAnyH_take (i := 14) (oi := { dst := some 130, op := Op.load 26 (Operand.tmp 129), type := 26, pos := "law.go:91", after := #[{ on := 13, ground := Ground.data }, { on := 6, ground := Ground.guard }], guard := some (6, true) }) (v := undef) rfl (by kernel_rfl) (by kernel_rfl) (by kernel_rfl) (fun _ _ _ h => h) (Or.inr ⟨by rfl, rfl⟩) hHeld ?_
              try simp only [Act.put, List.setIfInBounds_toArray, List.set_cons_zero, List.set_cons_succ]
              refine wpAnyH_take (i := 15) (oi := { dst := some 131, op := Op.binOp BinOp.neq 26 (Operand.tmp 126) (Operand.tmp 130) 26, type := 4, pos := "law.go:91", after := #[{ on := 10, ground := Ground.data }, { on := 14, ground := Ground.data }, { on := 6, ground := Ground.guard }], guard := some (6, true) }) (v := undef) rfl (by kernel_rfl) (by kernel_rfl) (by kernel_rfl) (fun _ _ _ h => h) (Or.inr ⟨by rfl, rfl⟩) hHeld ?_
              try simp only [Act.put, List.setIfInBounds_toArray, List.set_cons_zero, List.set_cons_succ]
              refine wpAnyH_take (i := 16) (oi := { dst := some 132, op := Op.pick (Operand.tmp 122) (Operand.tmp 131) (Operand.const (Value.bool false)), type := 4, pos := "law.go:91", after := #[{ on := 6, ground := Ground.data }, { on := 15, ground := Ground.data }], guard := none }) (v := ?vax116) rfl (by kernel_rfl) (by kernel_rfl) (by kernel_rfl) (fun _ _ _ h => h) (Or.inl ⟨by rfl, ?hyax116⟩) hHeld ?_
              case hyax116 => (intro w hSw; (try dsimp only at hSw); go_simp; (try with_reducible rfl))
              try simp only [Act.put, List.setIfInBounds_toArray, List.set_cons_zero, List.set_cons_succ]
              refine wpAnyH_take (i := 17) (oi := { dst := some 133, op := Op.move (Operand.tmp 132), type := 4, pos := "law.go:91", after := #[{ on := 16, ground := Ground.data }, { on := 6, ground := Ground.chain }], guard := none }) (v := ?vax117) rfl (by kernel_rfl) (by kernel_rfl) (by kernel_rfl) (fun _ _ _ h => h) (Or.inl ⟨by rfl, ?hyax117⟩) hHeld ?_
              case hyax117 => (intro w hSw; (try dsimp only at hSw); go_simp; (try with_reducible rfl))
              try simp only [Act.put, List.setIfInBounds_toArray, List.set_cons_zero, List.set_cons_succ]
              refine wpAnyH_take (i := 18) (oi := { dst := some 134, op := Op.move (Operand.tmp 16), type := 4, pos := "law.go:91", after := #[{ on := 17, ground := Ground.guard }], guard := some (17, false) }) (v := ?vax118) rfl (by kernel_rfl) (by kernel_rfl) (by kernel_rfl) (fun _ _ _ h => h) (Or.inl ⟨by rfl, ?hyax118⟩) hHeld ?_
              case hyax118 => (intro w hSw; (try dsimp only at hSw); go_simp; (try with_reducible rfl))
              try simp only [Act.put, List.setIfInBounds_toArray, List.set_cons_zero, List.set_cons_succ]
              refine wpAnyH_take (i := 19) (oi := { dst := some 135, op := Op.move (Operand.tmp 134), type := 4, pos := "law.go:91", after := #[{ on := 18, ground := Ground.data }, { on := 17, ground := Ground.chain }, { on := 17, ground := Ground.guard }], guard := some (17, false) }) (v := ?vax119) rfl (by kernel_rfl) (by kernel_rfl) (by kernel_rfl) (fun _ _ _ h => h) (Or.inl ⟨by rfl, ?hyax119⟩) hHeld ?_
              case hyax119 => (intro w hSw; (try dsimp only at hSw); go_simp; (try with_reducible rfl))
              try simp only [Act.put, List.setIfInBounds_toArray, List.set_cons_zero, List.set_cons_succ]
              refine wpAnyH_take (i := 20) (oi := { dst := some 136, op := Op.move (Operand.tmp 13), type := 24, pos := "law.go:91", after := #[{ on := 19, ground := Ground.guard }], guard := some (19, true) }) (v := undef) rfl (by kernel_rfl) (by kernel_rfl) (by kernel_rfl) (fun _ _ _ h => h) (Or.inr ⟨by rfl, rfl⟩) hHeld ?_
              try simp only [Act.put, List.setIfInBounds_toArray, List.set_cons_zero, List.set_cons_succ]
              refine wpAnyH_take (i := 21) (oi := { dst := some 137, op := Op.move (Operand.tmp 15), type := 3, pos := "law.go:91", after := #[{ on := 19, ground := Ground.guard }], guard := some (19, true) }) (v := undef) rfl (by kernel_rfl) (by kernel_rfl) (by kernel_rfl) (fun _ _ _ h => h) (Or.inr ⟨by rfl, rfl⟩) hHeld ?_
              try simp only [Act.put, List.setIfInBounds_toArray, List.set_cons_zero, List.set_cons_succ]
              refine wpAnyH_take (i := 22) (oi := { dst := some 138, op := Op.indexAddr 24 (Operand.tmp 136) (Operand.tmp 137), type := 0, pos := "law.go:91", after := #[{ on := 20, ground := Ground.data }, { on := 21, ground := Ground.data }, { on := 19, ground := Ground.guard }], guard := some (19, true) }) (v := undef) rfl (by kernel_rfl) (by kernel_rfl) (by kernel_rfl) (fun _ _ _ h => h) (Or.inr ⟨by rfl, rfl⟩) hHeld ?_
              try simp only [Act.put, List.setIfInBounds_toArray, List.set_cons_zero, List.set_cons_succ]
              refine wpAnyH_take (i := 23) (oi := { dst := some 139, op := Op.load 26 (Operand.tmp 138), type := 26, pos := "law.go:91", after := #[{ on := 22, ground := Ground.data }, { on := 19, ground := Ground.guard }], guard := some (19, true) }) (v := undef) rfl (by kernel_rfl) (by kernel_rfl) (by kernel_rfl) (fun _ _ _ h => h) (Or.inr ⟨by rfl, rfl⟩) hHeld ?_
              try simp only [Act.put, List.setIfInBounds_toArray, List.set_cons_zero, List.set_cons_succ]
              refine wpAnyH_take (i := 24) (oi := { dst := some 140, op := Op.move (Operand.tmp 1), type := 24, pos := "law.go:91", after := #[{ on := 19, ground := Ground.guard }], guard := some (19, true) }) (v := undef) rfl (by kernel_rfl) (by kernel_rfl) (by kernel_rfl) (fun _ _ _ h => h) (Or.inr ⟨by rfl, rfl⟩) hHeld ?_
              try simp only [Act.put, List.setIfInBounds_toArray, List.set_cons_zero, List.set_cons_succ]
              refine wpAnyH_take (i := 25) (oi := { dst := some 141, op := Op.move (Operand.tmp 15), type := 3, pos := "law.go:91", after := #[{ on := 19, ground := Ground.guard }], guard := some (19, true) }) (v := undef) rfl (by kernel_rfl) (by kernel_rfl) (by kernel_rfl) (fun _ _ _ h => h) (Or.inr ⟨by rfl, rfl⟩) hHeld ?_
              try simp only [Act.put, List.setIfInBounds_toArray, List.set_cons_zero, List.set_cons_succ]
              refine wpAnyH_take (i := 26) (oi := { dst := some 142, op := Op.indexAddr 24 (Operand.tmp 140) (Operand.tmp 141), type := 0, pos := "law.go:91", after := #[{ on := 24, ground := Ground.data }, { on := 25, ground := Ground.data }, { on := 19, ground := Ground.guard }], guard := some (19, true) }) (v := undef) rfl (by kernel_rfl) (by kernel_rfl) (by kernel_rfl) (fun _ _ _ h => h) (Or.inr ⟨by rfl, rfl⟩) hHeld ?_
              try simp only [Act.put, List.setIfInBounds_toArray, List.set_cons_zero, List.set_cons_succ]
              refine wpAnyH_take (i := 27) (oi := { dst := some 143, op := Op.load 26 (Operand.tmp 142), type := 26, pos := "law.go:91", after := #[{ on := 26, ground := Ground.data }, { on := 19, ground := Ground.guard }], guard := some (19, true) }) (v := undef) rfl (by kernel_rfl) (by kernel_rfl) (by kernel_rfl) (fun _ _ _ h => h) (Or.inr ⟨by rfl, rfl⟩) hHeld ?_
              try simp only [Act.put, List.setIfInBounds_toArray, List.set_cons_zero, List.set_cons_succ]
              refine wpAnyH_take (i := 28) (oi := { dst := some 144, op := Op.binOp BinOp.neq 26 (Operand.tmp 139) (Operand.tmp 143) 26, type := 4, pos := "law.go:91", after := #[{ on := 23, ground := Ground.data }, { on := 27, ground := Ground.data }, { on := 19, ground := Ground.guard }], guard := some (19, true) }) (v := undef) rfl (by kernel_rfl) (by kernel_rfl) (by kernel_rfl) (fun _ _ _ h => h) (Or.inr ⟨by rfl, rfl⟩) hHeld ?_
              try simp only [Act.put, List.setIfInBounds_toArray, List.set_cons_zero, List.set_cons_succ]
              refine wpAnyH_take (i := 29) (oi := { dst := some 145, op := Op.pick (Operand.tmp 135) (Operand.tmp 144) (Operand.const (Value.bool false)), type := 4, pos := "law.go:91", after := #[{ on := 19, ground := Ground.data }, { on := 28, ground := Ground.data }, { on := 17, ground := Ground.guard }], guard := some (17, false) }) (v := ?vax129) rfl (by kernel_rfl) (by kernel_rfl) (by kernel_rfl) (fun _ _ _ h => h) (Or.inl ⟨by rfl, ?hyax129⟩) hHeld ?_
              case hyax129 => (intro w hSw; (try dsimp only at hSw); go_simp; (try with_reducible rfl))
              try simp only [Act.put, List.setIfInBounds_toArray, List.set_cons_zero, List.set_cons_succ]
              refine wpAnyH_take (i := 30) (oi := { dst := some 146, op := Op.move (Operand.tmp 145), type := 4, pos := "law.go:91", after := #[{ on := 29, ground := Ground.data }, { on := 19, ground := Ground.chain }, { on := 17, ground := Ground.guard }], guard := some (17, false) }) (v := ?vax130) rfl (by kernel_rfl) (by kernel_rfl) (by kernel_rfl) (fun _ _ _ h => h) (Or.inl ⟨by rfl, ?hyax130⟩) hHeld ?_
              case hyax130 => (intro w hSw; (try dsimp only at hSw); go_simp; (try with_reducible rfl))
              try simp only [Act.put, List.setIfInBounds_toArray, List.set_cons_zero, List.set_cons_succ]
              refine wpAnyH_take (i := 31) (oi := { dst := some 147, op := Op.move (Operand.tmp 13), type := 24, pos := "law.go:91", after := #[{ on := 30, ground := Ground.guard }], guard := some (30, true) }) (v := undef) rfl (by kernel_rfl) (by kernel_rfl) (by kernel_rfl) (fun _ _ _ h => h) (Or.inr ⟨by rfl, rfl⟩) hHeld ?_
              try simp only [Act.put, List.setIfInBounds_toArray, List.set_cons_zero, List.set_cons_succ]
              refine wpAnyH_take (i := 32) (oi := { dst := some 148, op := Op.move (Operand.tmp 15), type := 3, pos := "law.go:91", after := #[{ on := 30, ground := Ground.guard }], guard := some (30, true) }) (v := undef) rfl (by kernel_rfl) (by kernel_rfl) (by kernel_rfl) (fun _ _ _ h => h) (Or.inr ⟨by rfl, rfl⟩) hHeld ?_
              try simp only [Act.put, List.setIfInBounds_toArray, List.set_cons_zero, List.set_cons_succ]
              refine wpAnyH_take (i := 33) (oi := { dst := some 149, op := Op.indexAddr 24 (Operand.tmp 147) (Operand.tmp 148), type := 0, pos := "law.go:91", after := #[{ on := 31, ground := Ground.data }, { on := 32, ground := Ground.data }, { on := 30, ground := Ground.guard }], guard := some (30, true) }) (v := undef) rfl (by kernel_rfl) (by kernel_rfl) (by kernel_rfl) (fun _ _ _ h => h) (Or.inr ⟨by rfl, rfl⟩) hHeld ?_
              try simp only [Act.put, List.setIfInBounds_toArray, List.set_cons_zero, List.set_cons_succ]
              refine wpAnyH_take (i := 34) (oi := { dst := some 150, op := Op.load 26 (Operand.tmp 149), type := 26, pos := "law.go:91", after := #[{ on := 33, ground := Ground.data }, { on := 30, ground := Ground.guard }], guard := some (30, true) }) (v := undef) rfl (by kernel_rfl) (by kernel_rfl) (by kernel_rfl) (fun _ _ _ h => h) (Or.inr ⟨by rfl, rfl⟩) hHeld ?_
              try simp only [Act.put, List.setIfInBounds_toArray, List.set_cons_zero, List.set_cons_succ]
              refine wpAnyH_take (i := 35) (oi := { dst := some 151, op := Op.binOp BinOp.neq 26 (Operand.tmp 150) (Operand.const (Value.int IntKind.u64 2)) 26, type := 4, pos := "law.go:91", after := #[{ on := 34, ground := Ground.data }, { on := 30, ground := Ground.guard }], guard := some (30, true) }) (v := undef) rfl (by kernel_rfl) (by kernel_rfl) (by kernel_rfl) (fun _ _ _ h => h) (Or.inr ⟨by rfl, rfl⟩) hHeld ?_
              try simp only [Act.put, List.setIfInBounds_toArray, List.set_cons_zero, List.set_cons_succ]
              refine wpAnyH_take (i := 36) (oi := { dst := some 152, op := Op.move (Operand.tmp 151), type := 4, pos := "law.go:91", after := #[{ on := 35, ground := Ground.data }, { on := 30, ground := Ground.chain }, { on := 30, ground := Ground.guard }], guard := some (30, true) }) (v := undef) rfl (by kernel_rfl) (by kernel_rfl) (by kernel_rfl) (fun _ _ _ h => h) (Or.inr ⟨by rfl, rfl⟩) hHeld ?_
              try simp only [Act.put, List.setIfInBounds_toArray, List.set_cons_zero, List.set_cons_succ]
              refine wpAnyH_take (i := 37) (oi := { dst := some 153, op := Op.move (Operand.tmp 1), type := 24, pos := "law.go:91", after := #[{ on := 36, ground := Ground.guard }], guard := some (36, false) }) (v := undef) rfl (by kernel_rfl) (by kernel_rfl) (by kernel_rfl) (fun _ _ _ h => h) (Or.inr ⟨by rfl, rfl⟩) hHeld ?_
              try simp only [Act.put, List.setIfInBounds_toArray, List.set_cons_zero, List.set_cons_succ]
              refine wpAnyH_take (i := 38) (oi := { dst := some 154, op := Op.move (Operand.tmp 15), type := 3, pos := "law.go:91", after := #[{ on := 36, ground := Ground.guard }], guard := some (36, false) }) (v := undef) rfl (by kernel_rfl) (by kernel_rfl) (by kernel_rfl) (fun _ _ _ h => h) (Or.inr ⟨by rfl, rfl⟩) hHeld ?_
              try simp only [Act.put, List.setIfInBounds_toArray, List.set_cons_zero, List.set_cons_succ]
              refine wpAnyH_take (i := 39) (oi := { dst := some 155, op := Op.indexAddr 24 (Operand.tmp 153) (Operand.tmp 154), type := 0, pos := "law.go:91", after := #[{ on := 37, ground := Ground.data }, { on := 38, ground := Ground.data }, { on := 36, ground := Ground.guard }], guard := some (36, false) }) (v := undef) rfl (by kernel_rfl) (by kernel_rfl) (by kernel_rfl) (fun _ _ _ h => h) (Or.inr ⟨by rfl, rfl⟩) hHeld ?_
              try simp only [Act.put, List.setIfInBounds_toArray, List.set_cons_zero, List.set_cons_succ]
              refine wpAnyH_take (i := 40) (oi := { dst := some 156, op := Op.load 26 (Operand.tmp 155), type := 26, pos := "law.go:91", after := #[{ on := 39, ground := Ground.data }, { on := 36, ground := Ground.guard }], guard := some (36, false) }) (v := undef) rfl (by kernel_rfl) (by kernel_rfl) (by kernel_rfl) (fun _ _ _ h => h) (Or.inr ⟨by rfl, rfl⟩) hHeld ?_
              try simp only [Act.put, List.setIfInBounds_toArray, List.set_cons_zero, List.set_cons_succ]
              refine wpAnyH_take (i := 41) (oi := { dst := some 157, op := Op.binOp BinOp.gtr 26 (Operand.tmp 156) (Operand.const (Value.int IntKind.u64 1)) 26, type := 4, pos := "law.go:91", after := #[{ on := 40, ground := Ground.data }, { on := 36, ground := Ground.guard }], guard := some (36, false) }) (v := undef) rfl (by kernel_rfl) (by kernel_rfl) (by kernel_rfl) (fun _ _ _ h => h) (Or.inr ⟨by rfl, rfl⟩) hHeld ?_
              try simp only [Act.put, List.setIfInBounds_toArray, List.set_cons_zero, List.set_cons_succ]
              refine wpAnyH_take (i := 42) (oi := { dst := some 158, op := Op.pick (Operand.tmp 152) (Operand.const (Value.bool true)) (Operand.tmp 157), type := 4, pos := "law.go:91", after := #[{ on := 36, ground := Ground.data }, { on := 41, ground := Ground.data }, { on := 30, ground := Ground.guard }], guard := some (30, true) }) (v := undef) rfl (by kernel_rfl) (by kernel_rfl) (by kernel_rfl) (fun _ _ _ h => h) (Or.inr ⟨by rfl, rfl⟩) hHeld ?_
              try simp only [Act.put, List.setIfInBounds_toArray, List.set_cons_zero, List.set_cons_succ]
              refine wpAnyH_take (i := 43) (oi := { dst := some 159, op := Op.pick (Operand.tmp 146) (Operand.tmp 158) (Operand.const (Value.bool false)), type := 4, pos := "law.go:91", after := #[{ on := 30, ground := Ground.data }, { on := 42, ground := Ground.data }, { on := 17, ground := Ground.guard }], guard := some (17, false) }) (v := ?vax143) rfl (by kernel_rfl) (by kernel_rfl) (by kernel_rfl) (fun _ _ _ h => h) (Or.inl ⟨by rfl, ?hyax143⟩) hHeld ?_
              case hyax143 => (intro w hSw; (try dsimp only at hSw); go_simp; (try with_reducible rfl))
              try simp only [Act.put, List.setIfInBounds_toArray, List.set_cons_zero, List.set_cons_succ]
              refine wpAnyH_take (i := 44) (oi := { dst := some 160, op := Op.pick (Operand.tmp 133) (Operand.const (Value.bool true)) (Operand.tmp 159), type := 4, pos := "law.go:91", after := #[{ on := 17, ground := Ground.data }, { on := 43, ground := Ground.data }], guard := none }) (v := ?vax144) rfl (by kernel_rfl) (by kernel_rfl) (by kernel_rfl) (fun _ _ _ h => h) (Or.inl ⟨by rfl, ?hyax144⟩) hHeld ?_
              case hyax144 => (intro w hSw; (try dsimp only at hSw); go_simp; (try with_reducible rfl))
              try simp only [Act.put, List.setIfInBounds_toArray, List.set_cons_zero, List.set_cons_succ]
              refine wpAnyH_done (by kernel_rfl) ?_ _
              have HZ3 := Lib.hid HZ.out.drew
              clear hHeld HZ
              have cz3 : wr.drew.cell? ⟨Z, k, none⟩ = some (.int .u64 gk) := cz
              have cw3 : wr.drew.cell? ⟨bz, off + k, none⟩ = some (.int .u64 fk) := cw
              clear cz cw
              generalize wr.drew = wd at *
              go_wp2_with fail
              go_roundw
              case rel => exact ⟨k + 1, by go_num, by omega, HZ3⟩
              case measure => simp [intOf]; omega
            have hkk := hkk.resolve_left hk2
            by_cases hbk : base ≤ (k : Int)
            · have d1 : decide (base ≤ (k : Int)) = true := decide_eq_true hbk
              have hrm : (Int.tmod ((k : Int) - base) 3 == 2) = false := by rw [Int.tmod_eq_emod_of_nonneg (by omega)]; simp; intro e; exact hno ⟨hbk, e⟩
              clear hno hbk
              rw [hkk] at cz
              generalize f k = fk at *
              have hne2 : ((k : Int) != 2) = true := by simp; omega
              clear hkk hk2
              go_wp2_with fail
              refine wp_region_held_drew (S := (fun w' => w'.cell? ⟨Z, k, none⟩ = some (.int .u64 fk) ∧ w'.cell? ⟨bz, off + k, none⟩ = some (.int .u64 fk))) (by kernel_rfl) ?_ (fun hHeld => ?_)
              · exact ⟨cz, cw⟩
              refine wpAnyH_take (i := 0) (oi := { dst := some 116, op := Op.move (Operand.tmp 16), type := 4, pos := "law.go:91", after := #[], guard := none }) (v := ?vbx20) rfl (by kernel_rfl) (by kernel_rfl) (by kernel_rfl) (fun _ _ _ h => h) (Or.inl ⟨by rfl, ?hybx20⟩) hHeld ?_
              case hybx20 => (intro w hSw; (try dsimp only at hSw); go_simp; (try with_reducible rfl))
              try simp only [Act.put, List.setIfInBounds_toArray, List.set_cons_zero, List.set_cons_succ]
              refine wpAnyH_take (i := 1) (oi := { dst := some 117, op := Op.unOp UnOp.not 4 (Operand.tmp 116), type := 4, pos := "law.go:91", after := #[{ on := 0, ground := Ground.data }], guard := none }) (v := ?vbx21) rfl (by kernel_rfl) (by kernel_rfl) (by kernel_rfl) (fun _ _ _ h => h) (Or.inl ⟨by rfl, ?hybx21⟩) hHeld ?_
              case hybx21 => (intro w hSw; (try dsimp only at hSw); go_simp; (try with_reducible rfl))
              try simp only [Act.put, List.setIfInBounds_toArray, List.set_cons_zero, List.set_cons_succ]
              refine wpAnyH_take (i := 2) (oi := { dst := some 118, op := Op.move (Operand.tmp 117), type := 4, pos := "law.go:91", after := #[{ on := 1, ground := Ground.data }], guard := none }) (v := ?vbx22) rfl (by kernel_rfl) (by kernel_rfl) (by kernel_rfl) (fun _ _ _ h => h) (Or.inl ⟨by rfl, ?hybx22⟩) hHeld ?_
              case hybx22 => (intro w hSw; (try dsimp only at hSw); go_simp; (try with_reducible rfl))
              try simp only [Act.put, List.setIfInBounds_toArray, List.set_cons_zero, List.set_cons_succ]
              refine wpAnyH_take (i := 3) (oi := { dst := some 119, op := Op.move (Operand.tmp 15), type := 3, pos := "law.go:91", after := #[{ on := 2, ground := Ground.guard }], guard := some (2, true) }) (v := ?vbx23) rfl (by kernel_rfl) (by kernel_rfl) (by kernel_rfl) (fun _ _ _ h => h) (Or.inl ⟨by rfl, ?hybx23⟩) hHeld ?_
              case hybx23 => (intro w hSw; (try dsimp only at hSw); go_simp; (try with_reducible rfl))
              try simp only [Act.put, List.setIfInBounds_toArray, List.set_cons_zero, List.set_cons_succ]
              refine wpAnyH_take (i := 4) (oi := { dst := some 120, op := Op.binOp BinOp.neq 3 (Operand.tmp 119) (Operand.const (Value.int IntKind.i64 2)) 3, type := 4, pos := "law.go:91", after := #[{ on := 3, ground := Ground.data }, { on := 2, ground := Ground.guard }], guard := some (2, true) }) (v := ?vbx24) rfl (by kernel_rfl) (by kernel_rfl) (by kernel_rfl) (fun _ _ _ h => h) (Or.inl ⟨by rfl, ?hybx24⟩) hHeld ?_
              case hybx24 => (intro w hSw; (try dsimp only at hSw); go_simp; (try with_reducible rfl))
              try simp only [Act.put, List.setIfInBounds_toArray, List.set_cons_zero, List.set_cons_succ]
              refine wpAnyH_take (i := 5) (oi := { dst := some 121, op := Op.pick (Operand.tmp 118) (Operand.tmp 120) (Operand.const (Value.bool false)), type := 4, pos := "law.go:91", after := #[{ on := 2, ground := Ground.data }, { on := 4, ground := Ground.data }], guard := none }) (v := ?vbx25) rfl (by kernel_rfl) (by kernel_rfl) (by kernel_rfl) (fun _ _ _ h => h) (Or.inl ⟨by rfl, ?hybx25⟩) hHeld ?_
              case hybx25 => (intro w hSw; (try dsimp only at hSw); go_simp; (try with_reducible rfl))
              try simp only [Act.put, List.setIfInBounds_toArray, List.set_cons_zero, List.set_cons_succ]
              refine wpAnyH_take (i := 6) (oi := { dst := some 122, op := Op.move (Operand.tmp 121), type := 4, pos := "law.go:91", after := #[{ on := 5, ground := Ground.data }, { on := 2, ground := Ground.chain }], guard := none }) (v := ?vbx26) rfl (by kernel_rfl) (by kernel_rfl) (by kernel_rfl) (fun _ _ _ h => h) (Or.inl ⟨by rfl, ?hybx26⟩) hHeld ?_
              case hybx26 => (intro w hSw; (try dsimp only at hSw); go_simp; (try with_reducible rfl))
              try simp only [Act.put, List.setIfInBounds_toArray, List.set_cons_zero, List.set_cons_succ]
              refine wpAnyH_take (i := 7) (oi := { dst := some 123, op := Op.move (Operand.tmp 13), type := 24, pos := "law.go:91", after := #[{ on := 6, ground := Ground.guard }], guard := some (6, true) }) (v := ?vbx27) rfl (by kernel_rfl) (by kernel_rfl) (by kernel_rfl) (fun _ _ _ h => h) (Or.inl ⟨by rfl, ?hybx27⟩) hHeld ?_
              case hybx27 => (intro w hSw; (try dsimp only at hSw); go_simp; (try with_reducible rfl))
              try simp only [Act.put, List.setIfInBounds_toArray, List.set_cons_zero, List.set_cons_succ]
              refine wpAnyH_take (i := 8) (oi := { dst := some 124, op := Op.move (Operand.tmp 15), type := 3, pos := "law.go:91", after := #[{ on := 6, ground := Ground.guard }], guard := some (6, true) }) (v := ?vbx28) rfl (by kernel_rfl) (by kernel_rfl) (by kernel_rfl) (fun _ _ _ h => h) (Or.inl ⟨by rfl, ?hybx28⟩) hHeld ?_
              case hybx28 => (intro w hSw; (try dsimp only at hSw); go_simp; (try with_reducible rfl))
              try simp only [Act.put, List.setIfInBounds_toArray, List.set_cons_zero, List.set_cons_succ]
              refine wpAnyH_take (i := 9) (oi := { dst := some 125, op := Op.indexAddr 24 (Operand.tmp 123) (Operand.tmp 124), type := 0, pos := "law.go:91", after := #[{ on := 7, ground := Ground.data }, { on := 8, ground := Ground.data }, { on := 6, ground := Ground.guard }], guard := some (6, true) }) (v := ?vbx29) rfl (by kernel_rfl) (by kernel_rfl) (by kernel_rfl) (fun _ _ _ h => h) (Or.inl ⟨by rfl, ?hybx29⟩) hHeld ?_
              case hybx29 => (intro w hSw; (try dsimp only at hSw); go_simp; (try with_reducible rfl))
              try simp only [Act.put, List.setIfInBounds_toArray, List.set_cons_zero, List.set_cons_succ]
              refine wpAnyH_take (i := 10) (oi := { dst := some 126, op := Op.load 26 (Operand.tmp 125), type := 26, pos := "law.go:91", after := #[{ on := 9, ground := Ground.data }, { on := 6, ground := Ground.guard }], guard := some (6, true) }) (v := ?vbx210) rfl (by kernel_rfl) (by kernel_rfl) (by kernel_rfl) (fun _ _ _ h => h) (Or.inl ⟨by rfl, ?hybx210⟩) hHeld ?_
              case hybx210 => (intro w hSw; (try dsimp only at hSw); go_simp; (try with_reducible rfl))
              try simp only [Act.put, List.setIfInBounds_toArray, List.set_cons_zero, List.set_cons_succ]
              refine wpAnyH_take (i := 11) (oi := { dst := some 127, op := Op.move (Operand.tmp 1), type := 24, pos := "law.go:91", after := #[{ on := 6, ground := Ground.guard }], guard := some (6, true) }) (v := ?vbx211) rfl (by kernel_rfl) (by kernel_rfl) (by kernel_rfl) (fun _ _ _ h => h) (Or.inl ⟨by rfl, ?hybx211⟩) hHeld ?_
              case hybx211 => (intro w hSw; (try dsimp only at hSw); go_simp; (try with_reducible rfl))
              try simp only [Act.put, List.setIfInBounds_toArray, List.set_cons_zero, List.set_cons_succ]
              refine wpAnyH_take (i := 12) (oi := { dst := some 128, op := Op.move (Operand.tmp 15), type := 3, pos := "law.go:91", after := #[{ on := 6, ground := Ground.guard }], guard := some (6, true) }) (v := ?vbx212) rfl (by kernel_rfl) (by kernel_rfl) (by kernel_rfl) (fun _ _ _ h => h) (Or.inl ⟨by rfl, ?hybx212⟩) hHeld ?_
              case hybx212 => (intro w hSw; (try dsimp only at hSw); go_simp; (try with_reducible rfl))
              try simp only [Act.put, List.setIfInBounds_toArray, List.set_cons_zero, List.set_cons_succ]
              refine wpAnyH_take (i := 13) (oi := { dst := some 129, op := Op.indexAddr 24 (Operand.tmp 127) (Operand.tmp 128), type := 0, pos := "law.go:91", after := #[{ on := 11, ground := Ground.data }, { on := 12, ground := Ground.data }, { on := 6, ground := Ground.guard }], guard := some (6, true) }) (v := ?vbx213) rfl (by kernel_rfl) (by kernel_rfl) (by kernel_rfl) (fun _ _ _ h => h) (Or.inl ⟨by rfl, ?hybx213⟩) hHeld ?_
              case hybx213 => (intro w hSw; (try dsimp only at hSw); go_simp; (try with_reducible rfl))
              try simp only [Act.put, List.setIfInBounds_toArray, List.set_cons_zero, List.set_cons_succ]
              refine wpAnyH_take (i := 14) (oi := { dst := some 130, op := Op.load 26 (Operand.tmp 129), type := 26, pos := "law.go:91", after := #[{ on := 13, ground := Ground.data }, { on := 6, ground := Ground.guard }], guard := some (6, true) }) (v := ?vbx214) rfl (by kernel_rfl) (by kernel_rfl) (by kernel_rfl) (fun _ _ _ h => h) (Or.inl ⟨by rfl, ?hybx214⟩) hHeld ?_
              case hybx214 => (intro w hSw; (try dsimp only at hSw); go_simp; (try with_reducible rfl))
              try simp only [Act.put, List.setIfInBounds_toArray, List.set_cons_zero, List.set_cons_succ]
              refine wpAnyH_take (i := 15) (oi := { dst := some 131, op := Op.binOp BinOp.neq 26 (Operand.tmp 126) (Operand.tmp 130) 26, type := 4, pos := "law.go:91", after := #[{ on := 10, ground := Ground.data }, { on := 14, ground := Ground.data }, { on := 6, ground := Ground.guard }], guard := some (6, true) }) (v := ?vbx215) rfl (by kernel_rfl) (by kernel_rfl) (by kernel_rfl) (fun _ _ _ h => h) (Or.inl ⟨by rfl, ?hybx215⟩) hHeld ?_
              case hybx215 => (intro w hSw; (try dsimp only at hSw); go_simp; (try with_reducible rfl))
              try simp only [Act.put, List.setIfInBounds_toArray, List.set_cons_zero, List.set_cons_succ]
              refine wpAnyH_take (i := 16) (oi := { dst := some 132, op := Op.pick (Operand.tmp 122) (Operand.tmp 131) (Operand.const (Value.bool false)), type := 4, pos := "law.go:91", after := #[{ on := 6, ground := Ground.data }, { on := 15, ground := Ground.data }], guard := none }) (v := ?vbx216) rfl (by kernel_rfl) (by kernel_rfl) (by kernel_rfl) (fun _ _ _ h => h) (Or.inl ⟨by rfl, ?hybx216⟩) hHeld ?_
              case hybx216 => (intro w hSw; (try dsimp only at hSw); go_simp; (try with_reducible rfl))
              try simp only [Act.put, List.setIfInBounds_toArray, List.set_cons_zero, List.set_cons_succ]
              refine wpAnyH_take (i := 17) (oi := { dst := some 133, op := Op.move (Operand.tmp 132), type := 4, pos := "law.go:91", after := #[{ on := 16, ground := Ground.data }, { on := 6, ground := Ground.chain }], guard := none }) (v := ?vbx217) rfl (by kernel_rfl) (by kernel_rfl) (by kernel_rfl) (fun _ _ _ h => h) (Or.inl ⟨by rfl, ?hybx217⟩) hHeld ?_
              case hybx217 => (intro w hSw; (try dsimp only at hSw); go_simp; (try with_reducible rfl))
              try simp only [Act.put, List.setIfInBounds_toArray, List.set_cons_zero, List.set_cons_succ]
              refine wpAnyH_take (i := 18) (oi := { dst := some 134, op := Op.move (Operand.tmp 16), type := 4, pos := "law.go:91", after := #[{ on := 17, ground := Ground.guard }], guard := some (17, false) }) (v := ?vbx218) rfl (by kernel_rfl) (by kernel_rfl) (by kernel_rfl) (fun _ _ _ h => h) (Or.inl ⟨by rfl, ?hybx218⟩) hHeld ?_
              case hybx218 => (intro w hSw; (try dsimp only at hSw); go_simp; (try with_reducible rfl))
              try simp only [Act.put, List.setIfInBounds_toArray, List.set_cons_zero, List.set_cons_succ]
              refine wpAnyH_take (i := 19) (oi := { dst := some 135, op := Op.move (Operand.tmp 134), type := 4, pos := "law.go:91", after := #[{ on := 18, ground := Ground.data }, { on := 17, ground := Ground.chain }, { on := 17, ground := Ground.guard }], guard := some (17, false) }) (v := ?vbx219) rfl (by kernel_rfl) (by kernel_rfl) (by kernel_rfl) (fun _ _ _ h => h) (Or.inl ⟨by rfl, ?hybx219⟩) hHeld ?_
              case hybx219 => (intro w hSw; (try dsimp only at hSw); go_simp; (try with_reducible rfl))
              try simp only [Act.put, List.setIfInBounds_toArray, List.set_cons_zero, List.set_cons_succ]
              refine wpAnyH_take (i := 20) (oi := { dst := some 136, op := Op.move (Operand.tmp 13), type := 24, pos := "law.go:91", after := #[{ on := 19, ground := Ground.guard }], guard := some (19, true) }) (v := undef) rfl (by kernel_rfl) (by kernel_rfl) (by kernel_rfl) (fun _ _ _ h => h) (Or.inr ⟨by rfl, rfl⟩) hHeld ?_
              try simp only [Act.put, List.setIfInBounds_toArray, List.set_cons_zero, List.set_cons_succ]
              refine wpAnyH_take (i := 21) (oi := { dst := some 137, op := Op.move (Operand.tmp 15), type := 3, pos := "law.go:91", after := #[{ on := 19, ground := Ground.guard }], guard := some (19, true) }) (v := undef) rfl (by kernel_rfl) (by kernel_rfl) (by kernel_rfl) (fun _ _ _ h => h) (Or.inr ⟨by rfl, rfl⟩) hHeld ?_
              try simp only [Act.put, List.setIfInBounds_toArray, List.set_cons_zero, List.set_cons_succ]
              refine wpAnyH_take (i := 22) (oi := { dst := some 138, op := Op.indexAddr 24 (Operand.tmp 136) (Operand.tmp 137), type := 0, pos := "law.go:91", after := #[{ on := 20, ground := Ground.data }, { on := 21, ground := Ground.data }, { on := 19, ground := Ground.guard }], guard := some (19, true) }) (v := undef) rfl (by kernel_rfl) (by kernel_rfl) (by kernel_rfl) (fun _ _ _ h => h) (Or.inr ⟨by rfl, rfl⟩) hHeld ?_
              try simp only [Act.put, List.setIfInBounds_toArray, List.set_cons_zero, List.set_cons_succ]
              refine wpAnyH_take (i := 23) (oi := { dst := some 139, op := Op.load 26 (Operand.tmp 138), type := 26, pos := "law.go:91", after := #[{ on := 22, ground := Ground.data }, { on := 19, ground := Ground.guard }], guard := some (19, true) }) (v := undef) rfl (by kernel_rfl) (by kernel_rfl) (by kernel_rfl) (fun _ _ _ h => h) (Or.inr ⟨by rfl, rfl⟩) hHeld ?_
              try simp only [Act.put, List.setIfInBounds_toArray, List.set_cons_zero, List.set_cons_succ]
              refine wpAnyH_take (i := 24) (oi := { dst := some 140, op := Op.move (Operand.tmp 1), type := 24, pos := "law.go:91", after := #[{ on := 19, ground := Ground.guard }], guard := some (19, true) }) (v := undef) rfl (by kernel_rfl) (by kernel_rfl) (by kernel_rfl) (fun _ _ _ h => h) (Or.inr ⟨by rfl, rfl⟩) hHeld ?_
              try simp only [Act.put, List.setIfInBounds_toArray, List.set_cons_zero, List.set_cons_succ]
              refine wpAnyH_take (i := 25) (oi := { dst := some 141, op := Op.move (Operand.tmp 15), type := 3, pos := "law.go:91", after := #[{ on := 19, ground := Ground.guard }], guard := some (19, true) }) (v := undef) rfl (by kernel_rfl) (by kernel_rfl) (by kernel_rfl) (fun _ _ _ h => h) (Or.inr ⟨by rfl, rfl⟩) hHeld ?_
              try simp only [Act.put, List.setIfInBounds_toArray, List.set_cons_zero, List.set_cons_succ]
              refine wpAnyH_take (i := 26) (oi := { dst := some 142, op := Op.indexAddr 24 (Operand.tmp 140) (Operand.tmp 141), type := 0, pos := "law.go:91", after := #[{ on := 24, ground := Ground.data }, { on := 25, ground := Ground.data }, { on := 19, ground := Ground.guard }], guard := some (19, true) }) (v := undef) rfl (by kernel_rfl) (by kernel_rfl) (by kernel_rfl) (fun _ _ _ h => h) (Or.inr ⟨by rfl, rfl⟩) hHeld ?_
              try simp only [Act.put, List.setIfInBounds_toArray, List.set_cons_zero, List.set_cons_succ]
              refine wpAnyH_take (i := 27) (oi := { dst := some 143, op := Op.load 26 (Operand.tmp 142), type := 26, pos := "law.go:91", after := #[{ on := 26, ground := Ground.data }, { on := 19, ground := Ground.guard }], guard := some (19, true) }) (v := undef) rfl (by kernel_rfl) (by kernel_rfl) (by kernel_rfl) (fun _ _ _ h => h) (Or.inr ⟨by rfl, rfl⟩) hHeld ?_
              try simp only [Act.put, List.setIfInBounds_toArray, List.set_cons_zero, List.set_cons_succ]
              refine wpAnyH_take (i := 28) (oi := { dst := some 144, op := Op.binOp BinOp.neq 26 (Operand.tmp 139) (Operand.tmp 143) 26, type := 4, pos := "law.go:91", after := #[{ on := 23, ground := Ground.data }, { on := 27, ground := Ground.data }, { on := 19, ground := Ground.guard }], guard := some (19, true) }) (v := undef) rfl (by kernel_rfl) (by kernel_rfl) (by kernel_rfl) (fun _ _ _ h => h) (Or.inr ⟨by rfl, rfl⟩) hHeld ?_
              try simp only [Act.put, List.setIfInBounds_toArray, List.set_cons_zero, List.set_cons_succ]
              refine wpAnyH_take (i := 29) (oi := { dst := some 145, op := Op.pick (Operand.tmp 135) (Operand.tmp 144) (Operand.const (Value.bool false)), type := 4, pos := "law.go:91", after := #[{ on := 19, ground := Ground.data }, { on := 28, ground := Ground.data }, { on := 17, ground := Ground.guard }], guard := some (17, false) }) (v := ?vbx229) rfl (by kernel_rfl) (by kernel_rfl) (by kernel_rfl) (fun _ _ _ h => h) (Or.inl ⟨by rfl, ?hybx229⟩) hHeld ?_
              case hybx229 => (intro w hSw; (try dsimp only at hSw); go_simp; (try with_reducible rfl))
              try simp only [Act.put, List.setIfInBounds_toArray, List.set_cons_zero, List.set_cons_succ]
              refine wpAnyH_take (i := 30) (oi := { dst := some 146, op := Op.move (Operand.tmp 145), type := 4, pos := "law.go:91", after := #[{ on := 29, ground := Ground.data }, { on := 19, ground := Ground.chain }, { on := 17, ground := Ground.guard }], guard := some (17, false) }) (v := ?vbx230) rfl (by kernel_rfl) (by kernel_rfl) (by kernel_rfl) (fun _ _ _ h => h) (Or.inl ⟨by rfl, ?hybx230⟩) hHeld ?_
              case hybx230 => (intro w hSw; (try dsimp only at hSw); go_simp; (try with_reducible rfl))
              try simp only [Act.put, List.setIfInBounds_toArray, List.set_cons_zero, List.set_cons_succ]
              refine wpAnyH_take (i := 31) (oi := { dst := some 147, op := Op.move (Operand.tmp 13), type := 24, pos := "law.go:91", after := #[{ on := 30, ground := Ground.guard }], guard := some (30, true) }) (v := undef) rfl (by kernel_rfl) (by kernel_rfl) (by kernel_rfl) (fun _ _ _ h => h) (Or.inr ⟨by rfl, rfl⟩) hHeld ?_
              try simp only [Act.put, List.setIfInBounds_toArray, List.set_cons_zero, List.set_cons_succ]
              refine wpAnyH_take (i := 32) (oi := { dst := some 148, op := Op.move (Operand.tmp 15), type := 3, pos := "law.go:91", after := #[{ on := 30, ground := Ground.guard }], guard := some (30, true) }) (v := undef) rfl (by kernel_rfl) (by kernel_rfl) (by kernel_rfl) (fun _ _ _ h => h) (Or.inr ⟨by rfl, rfl⟩) hHeld ?_
              try simp only [Act.put, List.setIfInBounds_toArray, List.set_cons_zero, List.set_cons_succ]
              refine wpAnyH_take (i := 33) (oi := { dst := some 149, op := Op.indexAddr 24 (Operand.tmp 147) (Operand.tmp 148), type := 0, pos := "law.go:91", after := #[{ on := 31, ground := Ground.data }, { on := 32, ground := Ground.data }, { on := 30, ground := Ground.guard }], guard := some (30, true) }) (v := undef) rfl (by kernel_rfl) (by kernel_rfl) (by kernel_rfl) (fun _ _ _ h => h) (Or.inr ⟨by rfl, rfl⟩) hHeld ?_
              try simp only [Act.put, List.setIfInBounds_toArray, List.set_cons_zero, List.set_cons_succ]
              refine wpAnyH_take (i := 34) (oi := { dst := some 150, op := Op.load 26 (Operand.tmp 149), type := 26, pos := "law.go:91", after := #[{ on := 33, ground := Ground.data }, { on := 30, ground := Ground.guard }], guard := some (30, true) }) (v := undef) rfl (by kernel_rfl) (by kernel_rfl) (by kernel_rfl) (fun _ _ _ h => h) (Or.inr ⟨by rfl, rfl⟩) hHeld ?_
              try simp only [Act.put, List.setIfInBounds_toArray, List.set_cons_zero, List.set_cons_succ]
              refine wpAnyH_take (i := 35) (oi := { dst := some 151, op := Op.binOp BinOp.neq 26 (Operand.tmp 150) (Operand.const (Value.int IntKind.u64 2)) 26, type := 4, pos := "law.go:91", after := #[{ on := 34, ground := Ground.data }, { on := 30, ground := Ground.guard }], guard := some (30, true) }) (v := undef) rfl (by kernel_rfl) (by kernel_rfl) (by kernel_rfl) (fun _ _ _ h => h) (Or.inr ⟨by rfl, rfl⟩) hHeld ?_
              try simp only [Act.put, List.setIfInBounds_toArray, List.set_cons_zero, List.set_cons_succ]
              refine wpAnyH_take (i := 36) (oi := { dst := some 152, op := Op.move (Operand.tmp 151), type := 4, pos := "law.go:91", after := #[{ on := 35, ground := Ground.data }, { on := 30, ground := Ground.chain }, { on := 30, ground := Ground.guard }], guard := some (30, true) }) (v := undef) rfl (by kernel_rfl) (by kernel_rfl) (by kernel_rfl) (fun _ _ _ h => h) (Or.inr ⟨by rfl, rfl⟩) hHeld ?_
              try simp only [Act.put, List.setIfInBounds_toArray, List.set_cons_zero, List.set_cons_succ]
              refine wpAnyH_take (i := 37) (oi := { dst := some 153, op := Op.move (Operand.tmp 1), type := 24, pos := "law.go:91", after := #[{ on := 36, ground := Ground.guard }], guard := some (36, false) }) (v := undef) rfl (by kernel_rfl) (by kernel_rfl) (by kernel_rfl) (fun _ _ _ h => h) (Or.inr ⟨by rfl, rfl⟩) hHeld ?_
              try simp only [Act.put, List.setIfInBounds_toArray, List.set_cons_zero, List.set_cons_succ]
              refine wpAnyH_take (i := 38) (oi := { dst := some 154, op := Op.move (Operand.tmp 15), type := 3, pos := "law.go:91", after := #[{ on := 36, ground := Ground.guard }], guard := some (36, false) }) (v := undef) rfl (by kernel_rfl) (by kernel_rfl) (by kernel_rfl) (fun _ _ _ h => h) (Or.inr ⟨by rfl, rfl⟩) hHeld ?_
              try simp only [Act.put, List.setIfInBounds_toArray, List.set_cons_zero, List.set_cons_succ]
              refine wpAnyH_take (i := 39) (oi := { dst := some 155, op := Op.indexAddr 24 (Operand.tmp 153) (Operand.tmp 154), type := 0, pos := "law.go:91", after := #[{ on := 37, ground := Ground.data }, { on := 38, ground := Ground.data }, { on := 36, ground := Ground.guard }], guard := some (36, false) }) (v := undef) rfl (by kernel_rfl) (by kernel_rfl) (by kernel_rfl) (fun _ _ _ h => h) (Or.inr ⟨by rfl, rfl⟩) hHeld ?_
              try simp only [Act.put, List.setIfInBounds_toArray, List.set_cons_zero, List.set_cons_succ]
              refine wpAnyH_take (i := 40) (oi := { dst := some 156, op := Op.load 26 (Operand.tmp 155), type := 26, pos := "law.go:91", after := #[{ on := 39, ground := Ground.data }, { on := 36, ground := Ground.guard }], guard := some (36, false) }) (v := undef) rfl (by kernel_rfl) (by kernel_rfl) (by kernel_rfl) (fun _ _ _ h => h) (Or.inr ⟨by rfl, rfl⟩) hHeld ?_
              try simp only [Act.put, List.setIfInBounds_toArray, List.set_cons_zero, List.set_cons_succ]
              refine wpAnyH_take (i := 41) (oi := { dst := some 157, op := Op.binOp BinOp.gtr 26 (Operand.tmp 156) (Operand.const (Value.int IntKind.u64 1)) 26, type := 4, pos := "law.go:91", after := #[{ on := 40, ground := Ground.data }, { on := 36, ground := Ground.guard }], guard := some (36, false) }) (v := undef) rfl (by kernel_rfl) (by kernel_rfl) (by kernel_rfl) (fun _ _ _ h => h) (Or.inr ⟨by rfl, rfl⟩) hHeld ?_
              try simp only [Act.put, List.setIfInBounds_toArray, List.set_cons_zero, List.set_cons_succ]
              refine wpAnyH_take (i := 42) (oi := { dst := some 158, op := Op.pick (Operand.tmp 152) (Operand.const (Value.bool true)) (Operand.tmp 157), type := 4, pos := "law.go:91", after := #[{ on := 36, ground := Ground.data }, { on := 41, ground := Ground.data }, { on := 30, ground := Ground.guard }], guard := some (30, true) }) (v := undef) rfl (by kernel_rfl) (by kernel_rfl) (by kernel_rfl) (fun _ _ _ h => h) (Or.inr ⟨by rfl, rfl⟩) hHeld ?_
              try simp only [Act.put, List.setIfInBounds_toArray, List.set_cons_zero, List.set_cons_succ]
              refine wpAnyH_take (i := 43) (oi := { dst := some 159, op := Op.pick (Operand.tmp 146) (Operand.tmp 158) (Operand.const (Value.bool false)), type := 4, pos := "law.go:91", after := #[{ on := 30, ground := Ground.data }, { on := 42, ground := Ground.data }, { on := 17, ground := Ground.guard }], guard := some (17, false) }) (v := ?vbx243) rfl (by kernel_rfl) (by kernel_rfl) (by kernel_rfl) (fun _ _ _ h => h) (Or.inl ⟨by rfl, ?hybx243⟩) hHeld ?_
              case hybx243 => (intro w hSw; (try dsimp only at hSw); go_simp; (try with_reducible rfl))
              try simp only [Act.put, List.setIfInBounds_toArray, List.set_cons_zero, List.set_cons_succ]
              refine wpAnyH_take (i := 44) (oi := { dst := some 160, op := Op.pick (Operand.tmp 133) (Operand.const (Value.bool true)) (Operand.tmp 159), type := 4, pos := "law.go:91", after := #[{ on := 17, ground := Ground.data }, { on := 43, ground := Ground.data }], guard := none }) (v := ?vbx244) rfl (by kernel_rfl) (by kernel_rfl) (by kernel_rfl) (fun _ _ _ h => h) (Or.inl ⟨by rfl, ?hybx244⟩) hHeld ?_
              case hybx244 => (intro w hSw; (try dsimp only at hSw); go_simp; (try with_reducible rfl))
              try simp only [Act.put, List.setIfInBounds_toArray, List.set_cons_zero, List.set_cons_succ]
              refine wpAnyH_done (by kernel_rfl) ?_ _
              have HZ3 := Lib.hid HZ.out.drew
              clear hHeld HZ
              have cz3 : wr.drew.cell? ⟨Z, k, none⟩ = some (.int .u64 fk) := cz
              have cw3 : wr.drew.cell? ⟨bz, off + k, none⟩ = some (.int .u64 fk) := cw
              clear cz cw
              generalize wr.drew = wd at *
              go_wp2_with fail
              go_roundw
              case rel => exact ⟨k + 1, by go_num, by omega, HZ3⟩
              case measure => simp [intOf]; omega
            · have d1 : decide (base ≤ (k : Int)) = false := decide_eq_false hbk
              clear hno hbk
              rw [hkk] at cz
              generalize f k = fk at *
              have hne2 : ((k : Int) != 2) = true := by simp; omega
              clear hkk hk2
              go_wp2_with fail
              refine wp_region_held_drew (S := (fun w' => w'.cell? ⟨Z, k, none⟩ = some (.int .u64 fk) ∧ w'.cell? ⟨bz, off + k, none⟩ = some (.int .u64 fk))) (by kernel_rfl) ?_ (fun hHeld => ?_)
              · exact ⟨cz, cw⟩
              refine wpAnyH_take (i := 0) (oi := { dst := some 116, op := Op.move (Operand.tmp 16), type := 4, pos := "law.go:91", after := #[], guard := none }) (v := ?vbx30) rfl (by kernel_rfl) (by kernel_rfl) (by kernel_rfl) (fun _ _ _ h => h) (Or.inl ⟨by rfl, ?hybx30⟩) hHeld ?_
              case hybx30 => (intro w hSw; (try dsimp only at hSw); go_simp; (try with_reducible rfl))
              try simp only [Act.put, List.setIfInBounds_toArray, List.set_cons_zero, List.set_cons_succ]
              refine wpAnyH_take (i := 1) (oi := { dst := some 117, op := Op.unOp UnOp.not 4 (Operand.tmp 116), type := 4, pos := "law.go:91", after := #[{ on := 0, ground := Ground.data }], guard := none }) (v := ?vbx31) rfl (by kernel_rfl) (by kernel_rfl) (by kernel_rfl) (fun _ _ _ h => h) (Or.inl ⟨by rfl, ?hybx31⟩) hHeld ?_
              case hybx31 => (intro w hSw; (try dsimp only at hSw); go_simp; (try with_reducible rfl))
              try simp only [Act.put, List.setIfInBounds_toArray, List.set_cons_zero, List.set_cons_succ]
              refine wpAnyH_take (i := 2) (oi := { dst := some 118, op := Op.move (Operand.tmp 117), type := 4, pos := "law.go:91", after := #[{ on := 1, ground := Ground.data }], guard := none }) (v := ?vbx32) rfl (by kernel_rfl) (by kernel_rfl) (by kernel_rfl) (fun _ _ _ h => h) (Or.inl ⟨by rfl, ?hybx32⟩) hHeld ?_
              case hybx32 => (intro w hSw; (try dsimp only at hSw); go_simp; (try with_reducible rfl))
              try simp only [Act.put, List.setIfInBounds_toArray, List.set_cons_zero, List.set_cons_succ]
              refine wpAnyH_take (i := 3) (oi := { dst := some 119, op := Op.move (Operand.tmp 15), type := 3, pos := "law.go:91", after := #[{ on := 2, ground := Ground.guard }], guard := some (2, true) }) (v := ?vbx33) rfl (by kernel_rfl) (by kernel_rfl) (by kernel_rfl) (fun _ _ _ h => h) (Or.inl ⟨by rfl, ?hybx33⟩) hHeld ?_
              case hybx33 => (intro w hSw; (try dsimp only at hSw); go_simp; (try with_reducible rfl))
              try simp only [Act.put, List.setIfInBounds_toArray, List.set_cons_zero, List.set_cons_succ]
              refine wpAnyH_take (i := 4) (oi := { dst := some 120, op := Op.binOp BinOp.neq 3 (Operand.tmp 119) (Operand.const (Value.int IntKind.i64 2)) 3, type := 4, pos := "law.go:91", after := #[{ on := 3, ground := Ground.data }, { on := 2, ground := Ground.guard }], guard := some (2, true) }) (v := ?vbx34) rfl (by kernel_rfl) (by kernel_rfl) (by kernel_rfl) (fun _ _ _ h => h) (Or.inl ⟨by rfl, ?hybx34⟩) hHeld ?_
              case hybx34 => (intro w hSw; (try dsimp only at hSw); go_simp; (try with_reducible rfl))
              try simp only [Act.put, List.setIfInBounds_toArray, List.set_cons_zero, List.set_cons_succ]
              refine wpAnyH_take (i := 5) (oi := { dst := some 121, op := Op.pick (Operand.tmp 118) (Operand.tmp 120) (Operand.const (Value.bool false)), type := 4, pos := "law.go:91", after := #[{ on := 2, ground := Ground.data }, { on := 4, ground := Ground.data }], guard := none }) (v := ?vbx35) rfl (by kernel_rfl) (by kernel_rfl) (by kernel_rfl) (fun _ _ _ h => h) (Or.inl ⟨by rfl, ?hybx35⟩) hHeld ?_
              case hybx35 => (intro w hSw; (try dsimp only at hSw); go_simp; (try with_reducible rfl))
              try simp only [Act.put, List.setIfInBounds_toArray, List.set_cons_zero, List.set_cons_succ]
              refine wpAnyH_take (i := 6) (oi := { dst := some 122, op := Op.move (Operand.tmp 121), type := 4, pos := "law.go:91", after := #[{ on := 5, ground := Ground.data }, { on := 2, ground := Ground.chain }], guard := none }) (v := ?vbx36) rfl (by kernel_rfl) (by kernel_rfl) (by kernel_rfl) (fun _ _ _ h => h) (Or.inl ⟨by rfl, ?hybx36⟩) hHeld ?_
              case hybx36 => (intro w hSw; (try dsimp only at hSw); go_simp; (try with_reducible rfl))
              try simp only [Act.put, List.setIfInBounds_toArray, List.set_cons_zero, List.set_cons_succ]
              refine wpAnyH_take (i := 7) (oi := { dst := some 123, op := Op.move (Operand.tmp 13), type := 24, pos := "law.go:91", after := #[{ on := 6, ground := Ground.guard }], guard := some (6, true) }) (v := ?vbx37) rfl (by kernel_rfl) (by kernel_rfl) (by kernel_rfl) (fun _ _ _ h => h) (Or.inl ⟨by rfl, ?hybx37⟩) hHeld ?_
              case hybx37 => (intro w hSw; (try dsimp only at hSw); go_simp; (try with_reducible rfl))
              try simp only [Act.put, List.setIfInBounds_toArray, List.set_cons_zero, List.set_cons_succ]
              refine wpAnyH_take (i := 8) (oi := { dst := some 124, op := Op.move (Operand.tmp 15), type := 3, pos := "law.go:91", after := #[{ on := 6, ground := Ground.guard }], guard := some (6, true) }) (v := ?vbx38) rfl (by kernel_rfl) (by kernel_rfl) (by kernel_rfl) (fun _ _ _ h => h) (Or.inl ⟨by rfl, ?hybx38⟩) hHeld ?_
              case hybx38 => (intro w hSw; (try dsimp only at hSw); go_simp; (try with_reducible rfl))
              try simp only [Act.put, List.setIfInBounds_toArray, List.set_cons_zero, List.set_cons_succ]
              refine wpAnyH_take (i := 9) (oi := { dst := some 125, op := Op.indexAddr 24 (Operand.tmp 123) (Operand.tmp 124), type := 0, pos := "law.go:91", after := #[{ on := 7, ground := Ground.data }, { on := 8, ground := Ground.data }, { on := 6, ground := Ground.guard }], guard := some (6, true) }) (v := ?vbx39) rfl (by kernel_rfl) (by kernel_rfl) (by kernel_rfl) (fun _ _ _ h => h) (Or.inl ⟨by rfl, ?hybx39⟩) hHeld ?_
              case hybx39 => (intro w hSw; (try dsimp only at hSw); go_simp; (try with_reducible rfl))
              try simp only [Act.put, List.setIfInBounds_toArray, List.set_cons_zero, List.set_cons_succ]
              refine wpAnyH_take (i := 10) (oi := { dst := some 126, op := Op.load 26 (Operand.tmp 125), type := 26, pos := "law.go:91", after := #[{ on := 9, ground := Ground.data }, { on := 6, ground := Ground.guard }], guard := some (6, true) }) (v := ?vbx310) rfl (by kernel_rfl) (by kernel_rfl) (by kernel_rfl) (fun _ _ _ h => h) (Or.inl ⟨by rfl, ?hybx310⟩) hHeld ?_
              case hybx310 => (intro w hSw; (try dsimp only at hSw); go_simp; (try with_reducible rfl))
              try simp only [Act.put, List.setIfInBounds_toArray, List.set_cons_zero, List.set_cons_succ]
              refine wpAnyH_take (i := 11) (oi := { dst := some 127, op := Op.move (Operand.tmp 1), type := 24, pos := "law.go:91", after := #[{ on := 6, ground := Ground.guard }], guard := some (6, true) }) (v := ?vbx311) rfl (by kernel_rfl) (by kernel_rfl) (by kernel_rfl) (fun _ _ _ h => h) (Or.inl ⟨by rfl, ?hybx311⟩) hHeld ?_
              case hybx311 => (intro w hSw; (try dsimp only at hSw); go_simp; (try with_reducible rfl))
              try simp only [Act.put, List.setIfInBounds_toArray, List.set_cons_zero, List.set_cons_succ]
              refine wpAnyH_take (i := 12) (oi := { dst := some 128, op := Op.move (Operand.tmp 15), type := 3, pos := "law.go:91", after := #[{ on := 6, ground := Ground.guard }], guard := some (6, true) }) (v := ?vbx312) rfl (by kernel_rfl) (by kernel_rfl) (by kernel_rfl) (fun _ _ _ h => h) (Or.inl ⟨by rfl, ?hybx312⟩) hHeld ?_
              case hybx312 => (intro w hSw; (try dsimp only at hSw); go_simp; (try with_reducible rfl))
              try simp only [Act.put, List.setIfInBounds_toArray, List.set_cons_zero, List.set_cons_succ]
              refine wpAnyH_take (i := 13) (oi := { dst := some 129, op := Op.indexAddr 24 (Operand.tmp 127) (Operand.tmp 128), type := 0, pos := "law.go:91", after := #[{ on := 11, ground := Ground.data }, { on := 12, ground := Ground.data }, { on := 6, ground := Ground.guard }], guard := some (6, true) }) (v := ?vbx313) rfl (by kernel_rfl) (by kernel_rfl) (by kernel_rfl) (fun _ _ _ h => h) (Or.inl ⟨by rfl, ?hybx313⟩) hHeld ?_
              case hybx313 => (intro w hSw; (try dsimp only at hSw); go_simp; (try with_reducible rfl))
              try simp only [Act.put, List.setIfInBounds_toArray, List.set_cons_zero, List.set_cons_succ]
              refine wpAnyH_take (i := 14) (oi := { dst := some 130, op := Op.load 26 (Operand.tmp 129), type := 26, pos := "law.go:91", after := #[{ on := 13, ground := Ground.data }, { on := 6, ground := Ground.guard }], guard := some (6, true) }) (v := ?vbx314) rfl (by kernel_rfl) (by kernel_rfl) (by kernel_rfl) (fun _ _ _ h => h) (Or.inl ⟨by rfl, ?hybx314⟩) hHeld ?_
              case hybx314 => (intro w hSw; (try dsimp only at hSw); go_simp; (try with_reducible rfl))
              try simp only [Act.put, List.setIfInBounds_toArray, List.set_cons_zero, List.set_cons_succ]
              refine wpAnyH_take (i := 15) (oi := { dst := some 131, op := Op.binOp BinOp.neq 26 (Operand.tmp 126) (Operand.tmp 130) 26, type := 4, pos := "law.go:91", after := #[{ on := 10, ground := Ground.data }, { on := 14, ground := Ground.data }, { on := 6, ground := Ground.guard }], guard := some (6, true) }) (v := ?vbx315) rfl (by kernel_rfl) (by kernel_rfl) (by kernel_rfl) (fun _ _ _ h => h) (Or.inl ⟨by rfl, ?hybx315⟩) hHeld ?_
              case hybx315 => (intro w hSw; (try dsimp only at hSw); go_simp; (try with_reducible rfl))
              try simp only [Act.put, List.setIfInBounds_toArray, List.set_cons_zero, List.set_cons_succ]
              refine wpAnyH_take (i := 16) (oi := { dst := some 132, op := Op.pick (Operand.tmp 122) (Operand.tmp 131) (Operand.const (Value.bool false)), type := 4, pos := "law.go:91", after := #[{ on := 6, ground := Ground.data }, { on := 15, ground := Ground.data }], guard := none }) (v := ?vbx316) rfl (by kernel_rfl) (by kernel_rfl) (by kernel_rfl) (fun _ _ _ h => h) (Or.inl ⟨by rfl, ?hybx316⟩) hHeld ?_
              case hybx316 => (intro w hSw; (try dsimp only at hSw); go_simp; (try with_reducible rfl))
              try simp only [Act.put, List.setIfInBounds_toArray, List.set_cons_zero, List.set_cons_succ]
              refine wpAnyH_take (i := 17) (oi := { dst := some 133, op := Op.move (Operand.tmp 132), type := 4, pos := "law.go:91", after := #[{ on := 16, ground := Ground.data }, { on := 6, ground := Ground.chain }], guard := none }) (v := ?vbx317) rfl (by kernel_rfl) (by kernel_rfl) (by kernel_rfl) (fun _ _ _ h => h) (Or.inl ⟨by rfl, ?hybx317⟩) hHeld ?_
              case hybx317 => (intro w hSw; (try dsimp only at hSw); go_simp; (try with_reducible rfl))
              try simp only [Act.put, List.setIfInBounds_toArray, List.set_cons_zero, List.set_cons_succ]
              refine wpAnyH_take (i := 18) (oi := { dst := some 134, op := Op.move (Operand.tmp 16), type := 4, pos := "law.go:91", after := #[{ on := 17, ground := Ground.guard }], guard := some (17, false) }) (v := ?vbx318) rfl (by kernel_rfl) (by kernel_rfl) (by kernel_rfl) (fun _ _ _ h => h) (Or.inl ⟨by rfl, ?hybx318⟩) hHeld ?_
              case hybx318 => (intro w hSw; (try dsimp only at hSw); go_simp; (try with_reducible rfl))
              try simp only [Act.put, List.setIfInBounds_toArray, List.set_cons_zero, List.set_cons_succ]
              refine wpAnyH_take (i := 19) (oi := { dst := some 135, op := Op.move (Operand.tmp 134), type := 4, pos := "law.go:91", after := #[{ on := 18, ground := Ground.data }, { on := 17, ground := Ground.chain }, { on := 17, ground := Ground.guard }], guard := some (17, false) }) (v := ?vbx319) rfl (by kernel_rfl) (by kernel_rfl) (by kernel_rfl) (fun _ _ _ h => h) (Or.inl ⟨by rfl, ?hybx319⟩) hHeld ?_
              case hybx319 => (intro w hSw; (try dsimp only at hSw); go_simp; (try with_reducible rfl))
              try simp only [Act.put, List.setIfInBounds_toArray, List.set_cons_zero, List.set_cons_succ]
              refine wpAnyH_take (i := 20) (oi := { dst := some 136, op := Op.move (Operand.tmp 13), type := 24, pos := "law.go:91", after := #[{ on := 19, ground := Ground.guard }], guard := some (19, true) }) (v := undef) rfl (by kernel_rfl) (by kernel_rfl) (by kernel_rfl) (fun _ _ _ h => h) (Or.inr ⟨by rfl, rfl⟩) hHeld ?_
              try simp only [Act.put, List.setIfInBounds_toArray, List.set_cons_zero, List.set_cons_succ]
              refine wpAnyH_take (i := 21) (oi := { dst := some 137, op := Op.move (Operand.tmp 15), type := 3, pos := "law.go:91", after := #[{ on := 19, ground := Ground.guard }], guard := some (19, true) }) (v := undef) rfl (by kernel_rfl) (by kernel_rfl) (by kernel_rfl) (fun _ _ _ h => h) (Or.inr ⟨by rfl, rfl⟩) hHeld ?_
              try simp only [Act.put, List.setIfInBounds_toArray, List.set_cons_zero, List.set_cons_succ]
              refine wpAnyH_take (i := 22) (oi := { dst := some 138, op := Op.indexAddr 24 (Operand.tmp 136) (Operand.tmp 137), type := 0, pos := "law.go:91", after := #[{ on := 20, ground := Ground.data }, { on := 21, ground := Ground.data }, { on := 19, ground := Ground.guard }], guard := some (19, true) }) (v := undef) rfl (by kernel_rfl) (by kernel_rfl) (by kernel_rfl) (fun _ _ _ h => h) (Or.inr ⟨by rfl, rfl⟩) hHeld ?_
              try simp only [Act.put, List.setIfInBounds_toArray, List.set_cons_zero, List.set_cons_succ]
              refine wpAnyH_take (i := 23) (oi := { dst := some 139, op := Op.load 26 (Operand.tmp 138), type := 26, pos := "law.go:91", after := #[{ on := 22, ground := Ground.data }, { on := 19, ground := Ground.guard }], guard := some (19, true) }) (v := undef) rfl (by kernel_rfl) (by kernel_rfl) (by kernel_rfl) (fun _ _ _ h => h) (Or.inr ⟨by rfl, rfl⟩) hHeld ?_
              try simp only [Act.put, List.setIfInBounds_toArray, List.set_cons_zero, List.set_cons_succ]
              refine wpAnyH_take (i := 24) (oi := { dst := some 140, op := Op.move (Operand.tmp 1), type := 24, pos := "law.go:91", after := #[{ on := 19, ground := Ground.guard }], guard := some (19, true) }) (v := undef) rfl (by kernel_rfl) (by kernel_rfl) (by kernel_rfl) (fun _ _ _ h => h) (Or.inr ⟨by rfl, rfl⟩) hHeld ?_
              try simp only [Act.put, List.setIfInBounds_toArray, List.set_cons_zero, List.set_cons_succ]
              refine wpAnyH_take (i := 25) (oi := { dst := some 141, op := Op.move (Operand.tmp 15), type := 3, pos := "law.go:91", after := #[{ on := 19, ground := Ground.guard }], guard := some (19, true) }) (v := undef) rfl (by kernel_rfl) (by kernel_rfl) (by kernel_rfl) (fun _ _ _ h => h) (Or.inr ⟨by rfl, rfl⟩) hHeld ?_
              try simp only [Act.put, List.setIfInBounds_toArray, List.set_cons_zero, List.set_cons_succ]
              refine wpAnyH_take (i := 26) (oi := { dst := some 142, op := Op.indexAddr 24 (Operand.tmp 140) (Operand.tmp 141), type := 0, pos := "law.go:91", after := #[{ on := 24, ground := Ground.data }, { on := 25, ground := Ground.data }, { on := 19, ground := Ground.guard }], guard := some (19, true) }) (v := undef) rfl (by kernel_rfl) (by kernel_rfl) (by kernel_rfl) (fun _ _ _ h => h) (Or.inr ⟨by rfl, rfl⟩) hHeld ?_
              try simp only [Act.put, List.setIfInBounds_toArray, List.set_cons_zero, List.set_cons_succ]
              refine wpAnyH_take (i := 27) (oi := { dst := some 143, op := Op.load 26 (Operand.tmp 142), type := 26, pos := "law.go:91", after := #[{ on := 26, ground := Ground.data }, { on := 19, ground := Ground.guard }], guard := some (19, true) }) (v := undef) rfl (by kernel_rfl) (by kernel_rfl) (by kernel_rfl) (fun _ _ _ h => h) (Or.inr ⟨by rfl, rfl⟩) hHeld ?_
              try simp only [Act.put, List.setIfInBounds_toArray, List.set_cons_zero, List.set_cons_succ]
              refine wpAnyH_take (i := 28) (oi := { dst := some 144, op := Op.binOp BinOp.neq 26 (Operand.tmp 139) (Operand.tmp 143) 26, type := 4, pos := "law.go:91", after := #[{ on := 23, ground := Ground.data }, { on := 27, ground := Ground.data }, { on := 19, ground := Ground.guard }], guard := some (19, true) }) (v := undef) rfl (by kernel_rfl) (by kernel_rfl) (by kernel_rfl) (fun _ _ _ h => h) (Or.inr ⟨by rfl, rfl⟩) hHeld ?_
              try simp only [Act.put, List.setIfInBounds_toArray, List.set_cons_zero, List.set_cons_succ]
              refine wpAnyH_take (i := 29) (oi := { dst := some 145, op := Op.pick (Operand.tmp 135) (Operand.tmp 144) (Operand.const (Value.bool false)), type := 4, pos := "law.go:91", after := #[{ on := 19, ground := Ground.data }, { on := 28, ground := Ground.data }, { on := 17, ground := Ground.guard }], guard := some (17, false) }) (v := ?vbx329) rfl (by kernel_rfl) (by kernel_rfl) (by kernel_rfl) (fun _ _ _ h => h) (Or.inl ⟨by rfl, ?hybx329⟩) hHeld ?_
              case hybx329 => (intro w hSw; (try dsimp only at hSw); go_simp; (try with_reducible rfl))
              try simp only [Act.put, List.setIfInBounds_toArray, List.set_cons_zero, List.set_cons_succ]
              refine wpAnyH_take (i := 30) (oi := { dst := some 146, op := Op.move (Operand.tmp 145), type := 4, pos := "law.go:91", after := #[{ on := 29, ground := Ground.data }, { on := 19, ground := Ground.chain }, { on := 17, ground := Ground.guard }], guard := some (17, false) }) (v := ?vbx330) rfl (by kernel_rfl) (by kernel_rfl) (by kernel_rfl) (fun _ _ _ h => h) (Or.inl ⟨by rfl, ?hybx330⟩) hHeld ?_
              case hybx330 => (intro w hSw; (try dsimp only at hSw); go_simp; (try with_reducible rfl))
              try simp only [Act.put, List.setIfInBounds_toArray, List.set_cons_zero, List.set_cons_succ]
              refine wpAnyH_take (i := 31) (oi := { dst := some 147, op := Op.move (Operand.tmp 13), type := 24, pos := "law.go:91", after := #[{ on := 30, ground := Ground.guard }], guard := some (30, true) }) (v := undef) rfl (by kernel_rfl) (by kernel_rfl) (by kernel_rfl) (fun _ _ _ h => h) (Or.inr ⟨by rfl, rfl⟩) hHeld ?_
              try simp only [Act.put, List.setIfInBounds_toArray, List.set_cons_zero, List.set_cons_succ]
              refine wpAnyH_take (i := 32) (oi := { dst := some 148, op := Op.move (Operand.tmp 15), type := 3, pos := "law.go:91", after := #[{ on := 30, ground := Ground.guard }], guard := some (30, true) }) (v := undef) rfl (by kernel_rfl) (by kernel_rfl) (by kernel_rfl) (fun _ _ _ h => h) (Or.inr ⟨by rfl, rfl⟩) hHeld ?_
              try simp only [Act.put, List.setIfInBounds_toArray, List.set_cons_zero, List.set_cons_succ]
              refine wpAnyH_take (i := 33) (oi := { dst := some 149, op := Op.indexAddr 24 (Operand.tmp 147) (Operand.tmp 148), type := 0, pos := "law.go:91", after := #[{ on := 31, ground := Ground.data }, { on := 32, ground := Ground.data }, { on := 30, ground := Ground.guard }], guard := some (30, true) }) (v := undef) rfl (by kernel_rfl) (by kernel_rfl) (by kernel_rfl) (fun _ _ _ h => h) (Or.inr ⟨by rfl, rfl⟩) hHeld ?_
              try simp only [Act.put, List.setIfInBounds_toArray, List.set_cons_zero, List.set_cons_succ]
              refine wpAnyH_take (i := 34) (oi := { dst := some 150, op := Op.load 26 (Operand.tmp 149), type := 26, pos := "law.go:91", after := #[{ on := 33, ground := Ground.data }, { on := 30, ground := Ground.guard }], guard := some (30, true) }) (v := undef) rfl (by kernel_rfl) (by kernel_rfl) (by kernel_rfl) (fun _ _ _ h => h) (Or.inr ⟨by rfl, rfl⟩) hHeld ?_
              try simp only [Act.put, List.setIfInBounds_toArray, List.set_cons_zero, List.set_cons_succ]
              refine wpAnyH_take (i := 35) (oi := { dst := some 151, op := Op.binOp BinOp.neq 26 (Operand.tmp 150) (Operand.const (Value.int IntKind.u64 2)) 26, type := 4, pos := "law.go:91", after := #[{ on := 34, ground := Ground.data }, { on := 30, ground := Ground.guard }], guard := some (30, true) }) (v := undef) rfl (by kernel_rfl) (by kernel_rfl) (by kernel_rfl) (fun _ _ _ h => h) (Or.inr ⟨by rfl, rfl⟩) hHeld ?_
              try simp only [Act.put, List.setIfInBounds_toArray, List.set_cons_zero, List.set_cons_succ]
              refine wpAnyH_take (i := 36) (oi := { dst := some 152, op := Op.move (Operand.tmp 151), type := 4, pos := "law.go:91", after := #[{ on := 35, ground := Ground.data }, { on := 30, ground := Ground.chain }, { on := 30, ground := Ground.guard }], guard := some (30, true) }) (v := undef) rfl (by kernel_rfl) (by kernel_rfl) (by kernel_rfl) (fun _ _ _ h => h) (Or.inr ⟨by rfl, rfl⟩) hHeld ?_
              try simp only [Act.put, List.setIfInBounds_toArray, List.set_cons_zero, List.set_cons_succ]
              refine wpAnyH_take (i := 37) (oi := { dst := some 153, op := Op.move (Operand.tmp 1), type := 24, pos := "law.go:91", after := #[{ on := 36, ground := Ground.guard }], guard := some (36, false) }) (v := undef) rfl (by kernel_rfl) (by kernel_rfl) (by kernel_rfl) (fun _ _ _ h => h) (Or.inr ⟨by rfl, rfl⟩) hHeld ?_
              try simp only [Act.put, List.setIfInBounds_toArray, List.set_cons_zero, List.set_cons_succ]
              refine wpAnyH_take (i := 38) (oi := { dst := some 154, op := Op.move (Operand.tmp 15), type := 3, pos := "law.go:91", after := #[{ on := 36, ground := Ground.guard }], guard := some (36, false) }) (v := undef) rfl (by kernel_rfl) (by kernel_rfl) (by kernel_rfl) (fun _ _ _ h => h) (Or.inr ⟨by rfl, rfl⟩) hHeld ?_
              try simp only [Act.put, List.setIfInBounds_toArray, List.set_cons_zero, List.set_cons_succ]
              refine wpAnyH_take (i := 39) (oi := { dst := some 155, op := Op.indexAddr 24 (Operand.tmp 153) (Operand.tmp 154), type := 0, pos := "law.go:91", after := #[{ on := 37, ground := Ground.data }, { on := 38, ground := Ground.data }, { on := 36, ground := Ground.guard }], guard := some (36, false) }) (v := undef) rfl (by kernel_rfl) (by kernel_rfl) (by kernel_rfl) (fun _ _ _ h => h) (Or.inr ⟨by rfl, rfl⟩) hHeld ?_
              try simp only [Act.put, List.setIfInBounds_toArray, List.set_cons_zero, List.set_cons_succ]
              refine wpAnyH_take (i := 40) (oi := { dst := some 156, op := Op.load 26 (Operand.tmp 155), type := 26, pos := "law.go:91", after := #[{ on := 39, ground := Ground.data }, { on := 36, ground := Ground.guard }], guard := some (36, false) }) (v := undef) rfl (by kernel_rfl) (by kernel_rfl) (by kernel_rfl) (fun _ _ _ h => h) (Or.inr ⟨by rfl, rfl⟩) hHeld ?_
              try simp only [Act.put, List.setIfInBounds_toArray, List.set_cons_zero, List.set_cons_succ]
              refine wpAnyH_take (i := 41) (oi := { dst := some 157, op := Op.binOp BinOp.gtr 26 (Operand.tmp 156) (Operand.const (Value.int IntKind.u64 1)) 26, type := 4, pos := "law.go:91", after := #[{ on := 40, ground := Ground.data }, { on := 36, ground := Ground.guard }], guard := some (36, false) }) (v := undef) rfl (by kernel_rfl) (by kernel_rfl) (by kernel_rfl) (fun _ _ _ h => h) (Or.inr ⟨by rfl, rfl⟩) hHeld ?_
              try simp only [Act.put, List.setIfInBounds_toArray, List.set_cons_zero, List.set_cons_succ]
              refine wpAnyH_take (i := 42) (oi := { dst := some 158, op := Op.pick (Operand.tmp 152) (Operand.const (Value.bool true)) (Operand.tmp 157), type := 4, pos := "law.go:91", after := #[{ on := 36, ground := Ground.data }, { on := 41, ground := Ground.data }, { on := 30, ground := Ground.guard }], guard := some (30, true) }) (v := undef) rfl (by kernel_rfl) (by kernel_rfl) (by kernel_rfl) (fun _ _ _ h => h) (Or.inr ⟨by rfl, rfl⟩) hHeld ?_
              try simp only [Act.put, List.setIfInBounds_toArray, List.set_cons_zero, List.set_cons_succ]
              refine wpAnyH_take (i := 43) (oi := { dst := some 159, op := Op.pick (Operand.tmp 146) (Operand.tmp 158) (Operand.const (Value.bool false)), type := 4, pos := "law.go:91", after := #[{ on := 30, ground := Ground.data }, { on := 42, ground := Ground.data }, { on := 17, ground := Ground.guard }], guard := some (17, false) }) (v := ?vbx343) rfl (by kernel_rfl) (by kernel_rfl) (by kernel_rfl) (fun _ _ _ h => h) (Or.inl ⟨by rfl, ?hybx343⟩) hHeld ?_
              case hybx343 => (intro w hSw; (try dsimp only at hSw); go_simp; (try with_reducible rfl))
              try simp only [Act.put, List.setIfInBounds_toArray, List.set_cons_zero, List.set_cons_succ]
              refine wpAnyH_take (i := 44) (oi := { dst := some 160, op := Op.pick (Operand.tmp 133) (Operand.const (Value.bool true)) (Operand.tmp 159), type := 4, pos := "law.go:91", after := #[{ on := 17, ground := Ground.data }, { on := 43, ground := Ground.data }], guard := none }) (v := ?vbx344) rfl (by kernel_rfl) (by kernel_rfl) (by kernel_rfl) (fun _ _ _ h => h) (Or.inl ⟨by rfl, ?hybx344⟩) hHeld ?_
              case hybx344 => (intro w hSw; (try dsimp only at hSw); go_simp; (try with_reducible rfl))
              try simp only [Act.put, List.setIfInBounds_toArray, List.set_cons_zero, List.set_cons_succ]
              refine wpAnyH_done (by kernel_rfl) ?_ _
              have HZ3 := Lib.hid HZ.out.drew
              clear hHeld HZ
              have cz3 : wr.drew.cell? ⟨Z, k, none⟩ = some (.int .u64 fk) := cz
              have cw3 : wr.drew.cell? ⟨bz, off + k, none⟩ = some (.int .u64 fk) := cw
              clear cz cw
              generalize wr.drew = wd at *
              go_wp2_with fail
              go_roundw
              case rel => exact ⟨k + 1, by go_num, by omega, HZ3⟩
              case measure => simp [intOf]; omega
          · have d1 : decide (base ≤ (k : Int)) = true := decide_eq_true hbk
            have hrm : Int.tmod ((k : Int) - base) 3 = 2 := by rw [Int.tmod_eq_emod_of_nonneg (by omega)]; exact hrem
            rcases hkk with hkk | hkk
            · rw [hkk] at cz
              generalize f k = fk at *
              clear hkk
              by_cases h2 : fk = 2
              · subst h2
                go_wp2_with fail
                refine wp_region_held_drew (S := (fun w' => w'.cell? ⟨Z, k, none⟩ = some (.int .u64 2) ∧ w'.cell? ⟨bz, off + k, none⟩ = some (.int .u64 2))) (by kernel_rfl) ?_ (fun hHeld => ?_)
                · exact ⟨cz, cw⟩
                refine wpAnyH_take (i := 0) (oi := { dst := some 116, op := Op.move (Operand.tmp 16), type := 4, pos := "law.go:91", after := #[], guard := none }) (v := ?vcx40) rfl (by kernel_rfl) (by kernel_rfl) (by kernel_rfl) (fun _ _ _ h => h) (Or.inl ⟨by rfl, ?hycx40⟩) hHeld ?_
                case hycx40 => (intro w hSw; (try dsimp only at hSw); go_simp; (try with_reducible rfl))
                try simp only [Act.put, List.setIfInBounds_toArray, List.set_cons_zero, List.set_cons_succ]
                refine wpAnyH_take (i := 1) (oi := { dst := some 117, op := Op.unOp UnOp.not 4 (Operand.tmp 116), type := 4, pos := "law.go:91", after := #[{ on := 0, ground := Ground.data }], guard := none }) (v := ?vcx41) rfl (by kernel_rfl) (by kernel_rfl) (by kernel_rfl) (fun _ _ _ h => h) (Or.inl ⟨by rfl, ?hycx41⟩) hHeld ?_
                case hycx41 => (intro w hSw; (try dsimp only at hSw); go_simp; (try with_reducible rfl))
                try simp only [Act.put, List.setIfInBounds_toArray, List.set_cons_zero, List.set_cons_succ]
                refine wpAnyH_take (i := 2) (oi := { dst := some 118, op := Op.move (Operand.tmp 117), type := 4, pos := "law.go:91", after := #[{ on := 1, ground := Ground.data }], guard := none }) (v := ?vcx42) rfl (by kernel_rfl) (by kernel_rfl) (by kernel_rfl) (fun _ _ _ h => h) (Or.inl ⟨by rfl, ?hycx42⟩) hHeld ?_
                case hycx42 => (intro w hSw; (try dsimp only at hSw); go_simp; (try with_reducible rfl))
                try simp only [Act.put, List.setIfInBounds_toArray, List.set_cons_zero, List.set_cons_succ]
                refine wpAnyH_take (i := 3) (oi := { dst := some 119, op := Op.move (Operand.tmp 15), type := 3, pos := "law.go:91", after := #[{ on := 2, ground := Ground.guard }], guard := some (2, true) }) (v := undef) rfl (by kernel_rfl) (by kernel_rfl) (by kernel_rfl) (fun _ _ _ h => h) (Or.inr ⟨by rfl, rfl⟩) hHeld ?_
                try simp only [Act.put, List.setIfInBounds_toArray, List.set_cons_zero, List.set_cons_succ]
                refine wpAnyH_take (i := 4) (oi := { dst := some 120, op := Op.binOp BinOp.neq 3 (Operand.tmp 119) (Operand.const (Value.int IntKind.i64 2)) 3, type := 4, pos := "law.go:91", after := #[{ on := 3, ground := Ground.data }, { on := 2, ground := Ground.guard }], guard := some (2, true) }) (v := undef) rfl (by kernel_rfl) (by kernel_rfl) (by kernel_rfl) (fun _ _ _ h => h) (Or.inr ⟨by rfl, rfl⟩) hHeld ?_
                try simp only [Act.put, List.setIfInBounds_toArray, List.set_cons_zero, List.set_cons_succ]
                refine wpAnyH_take (i := 5) (oi := { dst := some 121, op := Op.pick (Operand.tmp 118) (Operand.tmp 120) (Operand.const (Value.bool false)), type := 4, pos := "law.go:91", after := #[{ on := 2, ground := Ground.data }, { on := 4, ground := Ground.data }], guard := none }) (v := ?vcx45) rfl (by kernel_rfl) (by kernel_rfl) (by kernel_rfl) (fun _ _ _ h => h) (Or.inl ⟨by rfl, ?hycx45⟩) hHeld ?_
                case hycx45 => (intro w hSw; (try dsimp only at hSw); go_simp; (try with_reducible rfl))
                try simp only [Act.put, List.setIfInBounds_toArray, List.set_cons_zero, List.set_cons_succ]
                refine wpAnyH_take (i := 6) (oi := { dst := some 122, op := Op.move (Operand.tmp 121), type := 4, pos := "law.go:91", after := #[{ on := 5, ground := Ground.data }, { on := 2, ground := Ground.chain }], guard := none }) (v := ?vcx46) rfl (by kernel_rfl) (by kernel_rfl) (by kernel_rfl) (fun _ _ _ h => h) (Or.inl ⟨by rfl, ?hycx46⟩) hHeld ?_
                case hycx46 => (intro w hSw; (try dsimp only at hSw); go_simp; (try with_reducible rfl))
                try simp only [Act.put, List.setIfInBounds_toArray, List.set_cons_zero, List.set_cons_succ]
                refine wpAnyH_take (i := 7) (oi := { dst := some 123, op := Op.move (Operand.tmp 13), type := 24, pos := "law.go:91", after := #[{ on := 6, ground := Ground.guard }], guard := some (6, true) }) (v := undef) rfl (by kernel_rfl) (by kernel_rfl) (by kernel_rfl) (fun _ _ _ h => h) (Or.inr ⟨by rfl, rfl⟩) hHeld ?_
                try simp only [Act.put, List.setIfInBounds_toArray, List.set_cons_zero, List.set_cons_succ]
                refine wpAnyH_take (i := 8) (oi := { dst := some 124, op := Op.move (Operand.tmp 15), type := 3, pos := "law.go:91", after := #[{ on := 6, ground := Ground.guard }], guard := some (6, true) }) (v := undef) rfl (by kernel_rfl) (by kernel_rfl) (by kernel_rfl) (fun _ _ _ h => h) (Or.inr ⟨by rfl, rfl⟩) hHeld ?_
                try simp only [Act.put, List.setIfInBounds_toArray, List.set_cons_zero, List.set_cons_succ]
                refine wpAnyH_take (i := 9) (oi := { dst := some 125, op := Op.indexAddr 24 (Operand.tmp 123) (Operand.tmp 124), type := 0, pos := "law.go:91", after := #[{ on := 7, ground := Ground.data }, { on := 8, ground := Ground.data }, { on := 6, ground := Ground.guard }], guard := some (6, true) }) (v := undef) rfl (by kernel_rfl) (by kernel_rfl) (by kernel_rfl) (fun _ _ _ h => h) (Or.inr ⟨by rfl, rfl⟩) hHeld ?_
                try simp only [Act.put, List.setIfInBounds_toArray, List.set_cons_zero, List.set_cons_succ]
                refine wpAnyH_take (i := 10) (oi := { dst := some 126, op := Op.load 26 (Operand.tmp 125), type := 26, pos := "law.go:91", after := #[{ on := 9, ground := Ground.data }, { on := 6, ground := Ground.guard }], guard := some (6, true) }) (v := undef) rfl (by kernel_rfl) (by kernel_rfl) (by kernel_rfl) (fun _ _ _ h => h) (Or.inr ⟨by rfl, rfl⟩) hHeld ?_
                try simp only [Act.put, List.setIfInBounds_toArray, List.set_cons_zero, List.set_cons_succ]
                refine wpAnyH_take (i := 11) (oi := { dst := some 127, op := Op.move (Operand.tmp 1), type := 24, pos := "law.go:91", after := #[{ on := 6, ground := Ground.guard }], guard := some (6, true) }) (v := undef) rfl (by kernel_rfl) (by kernel_rfl) (by kernel_rfl) (fun _ _ _ h => h) (Or.inr ⟨by rfl, rfl⟩) hHeld ?_
                try simp only [Act.put, List.setIfInBounds_toArray, List.set_cons_zero, List.set_cons_succ]
                refine wpAnyH_take (i := 12) (oi := { dst := some 128, op := Op.move (Operand.tmp 15), type := 3, pos := "law.go:91", after := #[{ on := 6, ground := Ground.guard }], guard := some (6, true) }) (v := undef) rfl (by kernel_rfl) (by kernel_rfl) (by kernel_rfl) (fun _ _ _ h => h) (Or.inr ⟨by rfl, rfl⟩) hHeld ?_
                try simp only [Act.put, List.setIfInBounds_toArray, List.set_cons_zero, List.set_cons_succ]
                refine wpAnyH_take (i := 13) (oi := { dst := some 129, op := Op.indexAddr 24 (Operand.tmp 127) (Operand.tmp 128), type := 0, pos := "law.go:91", after := #[{ on := 11, ground := Ground.data }, { on := 12, ground := Ground.data }, { on := 6, ground := Ground.guard }], guard := some (6, true) }) (v := undef) rfl (by kernel_rfl) (by kernel_rfl) (by kernel_rfl) (fun _ _ _ h => h) (Or.inr ⟨by rfl, rfl⟩) hHeld ?_
                try simp only [Act.put, List.setIfInBounds_toArray, List.set_cons_zero, List.set_cons_succ]
                refine wpAnyH_take (i := 14) (oi := { dst := some 130, op := Op.load 26 (Operand.tmp 129), type := 26, pos := "law.go:91", after := #[{ on := 13, ground := Ground.data }, { on := 6, ground := Ground.guard }], guard := some (6, true) }) (v := undef) rfl (by kernel_rfl) (by kernel_rfl) (by kernel_rfl) (fun _ _ _ h => h) (Or.inr ⟨by rfl, rfl⟩) hHeld ?_
                try simp only [Act.put, List.setIfInBounds_toArray, List.set_cons_zero, List.set_cons_succ]
                refine wpAnyH_take (i := 15) (oi := { dst := some 131, op := Op.binOp BinOp.neq 26 (Operand.tmp 126) (Operand.tmp 130) 26, type := 4, pos := "law.go:91", after := #[{ on := 10, ground := Ground.data }, { on := 14, ground := Ground.data }, { on := 6, ground := Ground.guard }], guard := some (6, true) }) (v := undef) rfl (by kernel_rfl) (by kernel_rfl) (by kernel_rfl) (fun _ _ _ h => h) (Or.inr ⟨by rfl, rfl⟩) hHeld ?_
                try simp only [Act.put, List.setIfInBounds_toArray, List.set_cons_zero, List.set_cons_succ]
                refine wpAnyH_take (i := 16) (oi := { dst := some 132, op := Op.pick (Operand.tmp 122) (Operand.tmp 131) (Operand.const (Value.bool false)), type := 4, pos := "law.go:91", after := #[{ on := 6, ground := Ground.data }, { on := 15, ground := Ground.data }], guard := none }) (v := ?vcx416) rfl (by kernel_rfl) (by kernel_rfl) (by kernel_rfl) (fun _ _ _ h => h) (Or.inl ⟨by rfl, ?hycx416⟩) hHeld ?_
                case hycx416 => (intro w hSw; (try dsimp only at hSw); go_simp; (try with_reducible rfl))
                try simp only [Act.put, List.setIfInBounds_toArray, List.set_cons_zero, List.set_cons_succ]
                refine wpAnyH_take (i := 17) (oi := { dst := some 133, op := Op.move (Operand.tmp 132), type := 4, pos := "law.go:91", after := #[{ on := 16, ground := Ground.data }, { on := 6, ground := Ground.chain }], guard := none }) (v := ?vcx417) rfl (by kernel_rfl) (by kernel_rfl) (by kernel_rfl) (fun _ _ _ h => h) (Or.inl ⟨by rfl, ?hycx417⟩) hHeld ?_
                case hycx417 => (intro w hSw; (try dsimp only at hSw); go_simp; (try with_reducible rfl))
                try simp only [Act.put, List.setIfInBounds_toArray, List.set_cons_zero, List.set_cons_succ]
                refine wpAnyH_take (i := 18) (oi := { dst := some 134, op := Op.move (Operand.tmp 16), type := 4, pos := "law.go:91", after := #[{ on := 17, ground := Ground.guard }], guard := some (17, false) }) (v := ?vcx418) rfl (by kernel_rfl) (by kernel_rfl) (by kernel_rfl) (fun _ _ _ h => h) (Or.inl ⟨by rfl, ?hycx418⟩) hHeld ?_
                case hycx418 => (intro w hSw; (try dsimp only at hSw); go_simp; (try with_reducible rfl))
                try simp only [Act.put, List.setIfInBounds_toArray, List.set_cons_zero, List.set_cons_succ]
                refine wpAnyH_take (i := 19) (oi := { dst := some 135, op := Op.move (Operand.tmp 134), type := 4, pos := "law.go:91", after := #[{ on := 18, ground := Ground.data }, { on := 17, ground := Ground.chain }, { on := 17, ground := Ground.guard }], guard := some (17, false) }) (v := ?vcx419) rfl (by kernel_rfl) (by kernel_rfl) (by kernel_rfl) (fun _ _ _ h => h) (Or.inl ⟨by rfl, ?hycx419⟩) hHeld ?_
                case hycx419 => (intro w hSw; (try dsimp only at hSw); go_simp; (try with_reducible rfl))
                try simp only [Act.put, List.setIfInBounds_toArray, List.set_cons_zero, List.set_cons_succ]
                refine wpAnyH_take (i := 20) (oi := { dst := some 136, op := Op.move (Operand.tmp 13), type := 24, pos := "law.go:91", after := #[{ on := 19, ground := Ground.guard }], guard := some (19, true) }) (v := ?vcx420) rfl (by kernel_rfl) (by kernel_rfl) (by kernel_rfl) (fun _ _ _ h => h) (Or.inl ⟨by rfl, ?hycx420⟩) hHeld ?_
                case hycx420 => (intro w hSw; (try dsimp only at hSw); go_simp; (try with_reducible rfl))
                try simp only [Act.put, List.setIfInBounds_toArray, List.set_cons_zero, List.set_cons_succ]
                refine wpAnyH_take (i := 21) (oi := { dst := some 137, op := Op.move (Operand.tmp 15), type := 3, pos := "law.go:91", after := #[{ on := 19, ground := Ground.guard }], guard := some (19, true) }) (v := ?vcx421) rfl (by kernel_rfl) (by kernel_rfl) (by kernel_rfl) (fun _ _ _ h => h) (Or.inl ⟨by rfl, ?hycx421⟩) hHeld ?_
                case hycx421 => (intro w hSw; (try dsimp only at hSw); go_simp; (try with_reducible rfl))
                try simp only [Act.put, List.setIfInBounds_toArray, List.set_cons_zero, List.set_cons_succ]
                refine wpAnyH_take (i := 22) (oi := { dst := some 138, op := Op.indexAddr 24 (Operand.tmp 136) (Operand.tmp 137), type := 0, pos := "law.go:91", after := #[{ on := 20, ground := Ground.data }, { on := 21, ground := Ground.data }, { on := 19, ground := Ground.guard }], guard := some (19, true) }) (v := ?vcx422) rfl (by kernel_rfl) (by kernel_rfl) (by kernel_rfl) (fun _ _ _ h => h) (Or.inl ⟨by rfl, ?hycx422⟩) hHeld ?_
                case hycx422 => (intro w hSw; (try dsimp only at hSw); go_simp; (try with_reducible rfl))
                try simp only [Act.put, List.setIfInBounds_toArray, List.set_cons_zero, List.set_cons_succ]
                refine wpAnyH_take (i := 23) (oi := { dst := some 139, op := Op.load 26 (Operand.tmp 138), type := 26, pos := "law.go:91", after := #[{ on := 22, ground := Ground.data }, { on := 19, ground := Ground.guard }], guard := some (19, true) }) (v := ?vcx423) rfl (by kernel_rfl) (by kernel_rfl) (by kernel_rfl) (fun _ _ _ h => h) (Or.inl ⟨by rfl, ?hycx423⟩) hHeld ?_
                case hycx423 => (intro w hSw; (try dsimp only at hSw); go_simp; (try with_reducible rfl))
                try simp only [Act.put, List.setIfInBounds_toArray, List.set_cons_zero, List.set_cons_succ]
                refine wpAnyH_take (i := 24) (oi := { dst := some 140, op := Op.move (Operand.tmp 1), type := 24, pos := "law.go:91", after := #[{ on := 19, ground := Ground.guard }], guard := some (19, true) }) (v := ?vcx424) rfl (by kernel_rfl) (by kernel_rfl) (by kernel_rfl) (fun _ _ _ h => h) (Or.inl ⟨by rfl, ?hycx424⟩) hHeld ?_
                case hycx424 => (intro w hSw; (try dsimp only at hSw); go_simp; (try with_reducible rfl))
                try simp only [Act.put, List.setIfInBounds_toArray, List.set_cons_zero, List.set_cons_succ]
                refine wpAnyH_take (i := 25) (oi := { dst := some 141, op := Op.move (Operand.tmp 15), type := 3, pos := "law.go:91", after := #[{ on := 19, ground := Ground.guard }], guard := some (19, true) }) (v := ?vcx425) rfl (by kernel_rfl) (by kernel_rfl) (by kernel_rfl) (fun _ _ _ h => h) (Or.inl ⟨by rfl, ?hycx425⟩) hHeld ?_
                case hycx425 => (intro w hSw; (try dsimp only at hSw); go_simp; (try with_reducible rfl))
                try simp only [Act.put, List.setIfInBounds_toArray, List.set_cons_zero, List.set_cons_succ]
                refine wpAnyH_take (i := 26) (oi := { dst := some 142, op := Op.indexAddr 24 (Operand.tmp 140) (Operand.tmp 141), type := 0, pos := "law.go:91", after := #[{ on := 24, ground := Ground.data }, { on := 25, ground := Ground.data }, { on := 19, ground := Ground.guard }], guard := some (19, true) }) (v := ?vcx426) rfl (by kernel_rfl) (by kernel_rfl) (by kernel_rfl) (fun _ _ _ h => h) (Or.inl ⟨by rfl, ?hycx426⟩) hHeld ?_
                case hycx426 => (intro w hSw; (try dsimp only at hSw); go_simp; (try with_reducible rfl))
                try simp only [Act.put, List.setIfInBounds_toArray, List.set_cons_zero, List.set_cons_succ]
                refine wpAnyH_take (i := 27) (oi := { dst := some 143, op := Op.load 26 (Operand.tmp 142), type := 26, pos := "law.go:91", after := #[{ on := 26, ground := Ground.data }, { on := 19, ground := Ground.guard }], guard := some (19, true) }) (v := ?vcx427) rfl (by kernel_rfl) (by kernel_rfl) (by kernel_rfl) (fun _ _ _ h => h) (Or.inl ⟨by rfl, ?hycx427⟩) hHeld ?_
                case hycx427 => (intro w hSw; (try dsimp only at hSw); go_simp; (try with_reducible rfl))
                try simp only [Act.put, List.setIfInBounds_toArray, List.set_cons_zero, List.set_cons_succ]
                refine wpAnyH_take (i := 28) (oi := { dst := some 144, op := Op.binOp BinOp.neq 26 (Operand.tmp 139) (Operand.tmp 143) 26, type := 4, pos := "law.go:91", after := #[{ on := 23, ground := Ground.data }, { on := 27, ground := Ground.data }, { on := 19, ground := Ground.guard }], guard := some (19, true) }) (v := ?vcx428) rfl (by kernel_rfl) (by kernel_rfl) (by kernel_rfl) (fun _ _ _ h => h) (Or.inl ⟨by rfl, ?hycx428⟩) hHeld ?_
                case hycx428 => (intro w hSw; (try dsimp only at hSw); go_simp; (try with_reducible rfl))
                try simp only [Act.put, List.setIfInBounds_toArray, List.set_cons_zero, List.set_cons_succ]
                refine wpAnyH_take (i := 29) (oi := { dst := some 145, op := Op.pick (Operand.tmp 135) (Operand.tmp 144) (Operand.const (Value.bool false)), type := 4, pos := "law.go:91", after := #[{ on := 19, ground := Ground.data }, { on := 28, ground := Ground.data }, { on := 17, ground := Ground.guard }], guard := some (17, false) }) (v := ?vcx429) rfl (by kernel_rfl) (by kernel_rfl) (by kernel_rfl) (fun _ _ _ h => h) (Or.inl ⟨by rfl, ?hycx429⟩) hHeld ?_
                case hycx429 => (intro w hSw; (try dsimp only at hSw); go_simp; (try with_reducible rfl))
                try simp only [Act.put, List.setIfInBounds_toArray, List.set_cons_zero, List.set_cons_succ]
                refine wpAnyH_take (i := 30) (oi := { dst := some 146, op := Op.move (Operand.tmp 145), type := 4, pos := "law.go:91", after := #[{ on := 29, ground := Ground.data }, { on := 19, ground := Ground.chain }, { on := 17, ground := Ground.guard }], guard := some (17, false) }) (v := ?vcx430) rfl (by kernel_rfl) (by kernel_rfl) (by kernel_rfl) (fun _ _ _ h => h) (Or.inl ⟨by rfl, ?hycx430⟩) hHeld ?_
                case hycx430 => (intro w hSw; (try dsimp only at hSw); go_simp; (try with_reducible rfl))
                try simp only [Act.put, List.setIfInBounds_toArray, List.set_cons_zero, List.set_cons_succ]
                refine wpAnyH_take (i := 31) (oi := { dst := some 147, op := Op.move (Operand.tmp 13), type := 24, pos := "law.go:91", after := #[{ on := 30, ground := Ground.guard }], guard := some (30, true) }) (v := undef) rfl (by kernel_rfl) (by kernel_rfl) (by kernel_rfl) (fun _ _ _ h => h) (Or.inr ⟨by rfl, rfl⟩) hHeld ?_
                try simp only [Act.put, List.setIfInBounds_toArray, List.set_cons_zero, List.set_cons_succ]
                refine wpAnyH_take (i := 32) (oi := { dst := some 148, op := Op.move (Operand.tmp 15), type := 3, pos := "law.go:91", after := #[{ on := 30, ground := Ground.guard }], guard := some (30, true) }) (v := undef) rfl (by kernel_rfl) (by kernel_rfl) (by kernel_rfl) (fun _ _ _ h => h) (Or.inr ⟨by rfl, rfl⟩) hHeld ?_
                try simp only [Act.put, List.setIfInBounds_toArray, List.set_cons_zero, List.set_cons_succ]
                refine wpAnyH_take (i := 33) (oi := { dst := some 149, op := Op.indexAddr 24 (Operand.tmp 147) (Operand.tmp 148), type := 0, pos := "law.go:91", after := #[{ on := 31, ground := Ground.data }, { on := 32, ground := Ground.data }, { on := 30, ground := Ground.guard }], guard := some (30, true) }) (v := undef) rfl (by kernel_rfl) (by kernel_rfl) (by kernel_rfl) (fun _ _ _ h => h) (Or.inr ⟨by rfl, rfl⟩) hHeld ?_
                try simp only [Act.put, List.setIfInBounds_toArray, List.set_cons_zero, List.set_cons_succ]
                refine wpAnyH_take (i := 34) (oi := { dst := some 150, op := Op.load 26 (Operand.tmp 149), type := 26, pos := "law.go:91", after := #[{ on := 33, ground := Ground.data }, { on := 30, ground := Ground.guard }], guard := some (30, true) }) (v := undef) rfl (by kernel_rfl) (by kernel_rfl) (by kernel_rfl) (fun _ _ _ h => h) (Or.inr ⟨by rfl, rfl⟩) hHeld ?_
                try simp only [Act.put, List.setIfInBounds_toArray, List.set_cons_zero, List.set_cons_succ]
                refine wpAnyH_take (i := 35) (oi := { dst := some 151, op := Op.binOp BinOp.neq 26 (Operand.tmp 150) (Operand.const (Value.int IntKind.u64 2)) 26, type := 4, pos := "law.go:91", after := #[{ on := 34, ground := Ground.data }, { on := 30, ground := Ground.guard }], guard := some (30, true) }) (v := undef) rfl (by kernel_rfl) (by kernel_rfl) (by kernel_rfl) (fun _ _ _ h => h) (Or.inr ⟨by rfl, rfl⟩) hHeld ?_
                try simp only [Act.put, List.setIfInBounds_toArray, List.set_cons_zero, List.set_cons_succ]
                refine wpAnyH_take (i := 36) (oi := { dst := some 152, op := Op.move (Operand.tmp 151), type := 4, pos := "law.go:91", after := #[{ on := 35, ground := Ground.data }, { on := 30, ground := Ground.chain }, { on := 30, ground := Ground.guard }], guard := some (30, true) }) (v := undef) rfl (by kernel_rfl) (by kernel_rfl) (by kernel_rfl) (fun _ _ _ h => h) (Or.inr ⟨by rfl, rfl⟩) hHeld ?_
                try simp only [Act.put, List.setIfInBounds_toArray, List.set_cons_zero, List.set_cons_succ]
                refine wpAnyH_take (i := 37) (oi := { dst := some 153, op := Op.move (Operand.tmp 1), type := 24, pos := "law.go:91", after := #[{ on := 36, ground := Ground.guard }], guard := some (36, false) }) (v := undef) rfl (by kernel_rfl) (by kernel_rfl) (by kernel_rfl) (fun _ _ _ h => h) (Or.inr ⟨by rfl, rfl⟩) hHeld ?_
                try simp only [Act.put, List.setIfInBounds_toArray, List.set_cons_zero, List.set_cons_succ]
                refine wpAnyH_take (i := 38) (oi := { dst := some 154, op := Op.move (Operand.tmp 15), type := 3, pos := "law.go:91", after := #[{ on := 36, ground := Ground.guard }], guard := some (36, false) }) (v := undef) rfl (by kernel_rfl) (by kernel_rfl) (by kernel_rfl) (fun _ _ _ h => h) (Or.inr ⟨by rfl, rfl⟩) hHeld ?_
                try simp only [Act.put, List.setIfInBounds_toArray, List.set_cons_zero, List.set_cons_succ]
                refine wpAnyH_take (i := 39) (oi := { dst := some 155, op := Op.indexAddr 24 (Operand.tmp 153) (Operand.tmp 154), type := 0, pos := "law.go:91", after := #[{ on := 37, ground := Ground.data }, { on := 38, ground := Ground.data }, { on := 36, ground := Ground.guard }], guard := some (36, false) }) (v := undef) rfl (by kernel_rfl) (by kernel_rfl) (by kernel_rfl) (fun _ _ _ h => h) (Or.inr ⟨by rfl, rfl⟩) hHeld ?_
                try simp only [Act.put, List.setIfInBounds_toArray, List.set_cons_zero, List.set_cons_succ]
                refine wpAnyH_take (i := 40) (oi := { dst := some 156, op := Op.load 26 (Operand.tmp 155), type := 26, pos := "law.go:91", after := #[{ on := 39, ground := Ground.data }, { on := 36, ground := Ground.guard }], guard := some (36, false) }) (v := undef) rfl (by kernel_rfl) (by kernel_rfl) (by kernel_rfl) (fun _ _ _ h => h) (Or.inr ⟨by rfl, rfl⟩) hHeld ?_
                try simp only [Act.put, List.setIfInBounds_toArray, List.set_cons_zero, List.set_cons_succ]
                refine wpAnyH_take (i := 41) (oi := { dst := some 157, op := Op.binOp BinOp.gtr 26 (Operand.tmp 156) (Operand.const (Value.int IntKind.u64 1)) 26, type := 4, pos := "law.go:91", after := #[{ on := 40, ground := Ground.data }, { on := 36, ground := Ground.guard }], guard := some (36, false) }) (v := undef) rfl (by kernel_rfl) (by kernel_rfl) (by kernel_rfl) (fun _ _ _ h => h) (Or.inr ⟨by rfl, rfl⟩) hHeld ?_
                try simp only [Act.put, List.setIfInBounds_toArray, List.set_cons_zero, List.set_cons_succ]
                refine wpAnyH_take (i := 42) (oi := { dst := some 158, op := Op.pick (Operand.tmp 152) (Operand.const (Value.bool true)) (Operand.tmp 157), type := 4, pos := "law.go:91", after := #[{ on := 36, ground := Ground.data }, { on := 41, ground := Ground.data }, { on := 30, ground := Ground.guard }], guard := some (30, true) }) (v := undef) rfl (by kernel_rfl) (by kernel_rfl) (by kernel_rfl) (fun _ _ _ h => h) (Or.inr ⟨by rfl, rfl⟩) hHeld ?_
                try simp only [Act.put, List.setIfInBounds_toArray, List.set_cons_zero, List.set_cons_succ]
                refine wpAnyH_take (i := 43) (oi := { dst := some 159, op := Op.pick (Operand.tmp 146) (Operand.tmp 158) (Operand.const (Value.bool false)), type := 4, pos := "law.go:91", after := #[{ on := 30, ground := Ground.data }, { on := 42, ground := Ground.data }, { on := 17, ground := Ground.guard }], guard := some (17, false) }) (v := ?vcx443) rfl (by kernel_rfl) (by kernel_rfl) (by kernel_rfl) (fun _ _ _ h => h) (Or.inl ⟨by rfl, ?hycx443⟩) hHeld ?_
                case hycx443 => (intro w hSw; (try dsimp only at hSw); go_simp; (try with_reducible rfl))
                try simp only [Act.put, List.setIfInBounds_toArray, List.set_cons_zero, List.set_cons_succ]
                refine wpAnyH_take (i := 44) (oi := { dst := some 160, op := Op.pick (Operand.tmp 133) (Operand.const (Value.bool true)) (Operand.tmp 159), type := 4, pos := "law.go:91", after := #[{ on := 17, ground := Ground.data }, { on := 43, ground := Ground.data }], guard := none }) (v := ?vcx444) rfl (by kernel_rfl) (by kernel_rfl) (by kernel_rfl) (fun _ _ _ h => h) (Or.inl ⟨by rfl, ?hycx444⟩) hHeld ?_
                case hycx444 => (intro w hSw; (try dsimp only at hSw); go_simp; (try with_reducible rfl))
                try simp only [Act.put, List.setIfInBounds_toArray, List.set_cons_zero, List.set_cons_succ]
                refine wpAnyH_done (by kernel_rfl) ?_ _
                have HZ3 := Lib.hid HZ.out.drew
                clear hHeld HZ
                have cz3 : wr.drew.cell? ⟨Z, k, none⟩ = some (.int .u64 2) := cz
                have cw3 : wr.drew.cell? ⟨bz, off + k, none⟩ = some (.int .u64 2) := cw
                clear cz cw
                generalize wr.drew = wd at *
                go_wp2_with fail
                go_roundw
                case rel => exact ⟨k + 1, by go_num, by omega, HZ3⟩
                case measure => simp [intOf]; omega
              · have hf2 : (fk != 2) = true := by simpa using h2
                clear h2
                go_wp2_with fail
                refine wp_region_held_drew (S := (fun w' => w'.cell? ⟨Z, k, none⟩ = some (.int .u64 fk) ∧ w'.cell? ⟨bz, off + k, none⟩ = some (.int .u64 fk))) (by kernel_rfl) ?_ (fun hHeld => ?_)
                · exact ⟨cz, cw⟩
                refine wpAnyH_take (i := 0) (oi := { dst := some 116, op := Op.move (Operand.tmp 16), type := 4, pos := "law.go:91", after := #[], guard := none }) (v := ?vex50) rfl (by kernel_rfl) (by kernel_rfl) (by kernel_rfl) (fun _ _ _ h => h) (Or.inl ⟨by rfl, ?hyex50⟩) hHeld ?_
                case hyex50 => (intro w hSw; (try dsimp only at hSw); go_simp; (try with_reducible rfl))
                try simp only [Act.put, List.setIfInBounds_toArray, List.set_cons_zero, List.set_cons_succ]
                refine wpAnyH_take (i := 1) (oi := { dst := some 117, op := Op.unOp UnOp.not 4 (Operand.tmp 116), type := 4, pos := "law.go:91", after := #[{ on := 0, ground := Ground.data }], guard := none }) (v := ?vex51) rfl (by kernel_rfl) (by kernel_rfl) (by kernel_rfl) (fun _ _ _ h => h) (Or.inl ⟨by rfl, ?hyex51⟩) hHeld ?_
                case hyex51 => (intro w hSw; (try dsimp only at hSw); go_simp; (try with_reducible rfl))
                try simp only [Act.put, List.setIfInBounds_toArray, List.set_cons_zero, List.set_cons_succ]
                refine wpAnyH_take (i := 2) (oi := { dst := some 118, op := Op.move (Operand.tmp 117), type := 4, pos := "law.go:91", after := #[{ on := 1, ground := Ground.data }], guard := none }) (v := ?vex52) rfl (by kernel_rfl) (by kernel_rfl) (by kernel_rfl) (fun _ _ _ h => h) (Or.inl ⟨by rfl, ?hyex52⟩) hHeld ?_
                case hyex52 => (intro w hSw; (try dsimp only at hSw); go_simp; (try with_reducible rfl))
                try simp only [Act.put, List.setIfInBounds_toArray, List.set_cons_zero, List.set_cons_succ]
                refine wpAnyH_take (i := 3) (oi := { dst := some 119, op := Op.move (Operand.tmp 15), type := 3, pos := "law.go:91", after := #[{ on := 2, ground := Ground.guard }], guard := some (2, true) }) (v := undef) rfl (by kernel_rfl) (by kernel_rfl) (by kernel_rfl) (fun _ _ _ h => h) (Or.inr ⟨by rfl, rfl⟩) hHeld ?_
                try simp only [Act.put, List.setIfInBounds_toArray, List.set_cons_zero, List.set_cons_succ]
                refine wpAnyH_take (i := 4) (oi := { dst := some 120, op := Op.binOp BinOp.neq 3 (Operand.tmp 119) (Operand.const (Value.int IntKind.i64 2)) 3, type := 4, pos := "law.go:91", after := #[{ on := 3, ground := Ground.data }, { on := 2, ground := Ground.guard }], guard := some (2, true) }) (v := undef) rfl (by kernel_rfl) (by kernel_rfl) (by kernel_rfl) (fun _ _ _ h => h) (Or.inr ⟨by rfl, rfl⟩) hHeld ?_
                try simp only [Act.put, List.setIfInBounds_toArray, List.set_cons_zero, List.set_cons_succ]
                refine wpAnyH_take (i := 5) (oi := { dst := some 121, op := Op.pick (Operand.tmp 118) (Operand.tmp 120) (Operand.const (Value.bool false)), type := 4, pos := "law.go:91", after := #[{ on := 2, ground := Ground.data }, { on := 4, ground := Ground.data }], guard := none }) (v := ?vex55) rfl (by kernel_rfl) (by kernel_rfl) (by kernel_rfl) (fun _ _ _ h => h) (Or.inl ⟨by rfl, ?hyex55⟩) hHeld ?_
                case hyex55 => (intro w hSw; (try dsimp only at hSw); go_simp; (try with_reducible rfl))
                try simp only [Act.put, List.setIfInBounds_toArray, List.set_cons_zero, List.set_cons_succ]
                refine wpAnyH_take (i := 6) (oi := { dst := some 122, op := Op.move (Operand.tmp 121), type := 4, pos := "law.go:91", after := #[{ on := 5, ground := Ground.data }, { on := 2, ground := Ground.chain }], guard := none }) (v := ?vex56) rfl (by kernel_rfl) (by kernel_rfl) (by kernel_rfl) (fun _ _ _ h => h) (Or.inl ⟨by rfl, ?hyex56⟩) hHeld ?_
                case hyex56 => (intro w hSw; (try dsimp only at hSw); go_simp; (try with_reducible rfl))
                try simp only [Act.put, List.setIfInBounds_toArray, List.set_cons_zero, List.set_cons_succ]
                refine wpAnyH_take (i := 7) (oi := { dst := some 123, op := Op.move (Operand.tmp 13), type := 24, pos := "law.go:91", after := #[{ on := 6, ground := Ground.guard }], guard := some (6, true) }) (v := undef) rfl (by kernel_rfl) (by kernel_rfl) (by kernel_rfl) (fun _ _ _ h => h) (Or.inr ⟨by rfl, rfl⟩) hHeld ?_
                try simp only [Act.put, List.setIfInBounds_toArray, List.set_cons_zero, List.set_cons_succ]
                refine wpAnyH_take (i := 8) (oi := { dst := some 124, op := Op.move (Operand.tmp 15), type := 3, pos := "law.go:91", after := #[{ on := 6, ground := Ground.guard }], guard := some (6, true) }) (v := undef) rfl (by kernel_rfl) (by kernel_rfl) (by kernel_rfl) (fun _ _ _ h => h) (Or.inr ⟨by rfl, rfl⟩) hHeld ?_
                try simp only [Act.put, List.setIfInBounds_toArray, List.set_cons_zero, List.set_cons_succ]
                refine wpAnyH_take (i := 9) (oi := { dst := some 125, op := Op.indexAddr 24 (Operand.tmp 123) (Operand.tmp 124), type := 0, pos := "law.go:91", after := #[{ on := 7, ground := Ground.data }, { on := 8, ground := Ground.data }, { on := 6, ground := Ground.guard }], guard := some (6, true) }) (v := undef) rfl (by kernel_rfl) (by kernel_rfl) (by kernel_rfl) (fun _ _ _ h => h) (Or.inr ⟨by rfl, rfl⟩) hHeld ?_
                try simp only [Act.put, List.setIfInBounds_toArray, List.set_cons_zero, List.set_cons_succ]
                refine wpAnyH_take (i := 10) (oi := { dst := some 126, op := Op.load 26 (Operand.tmp 125), type := 26, pos := "law.go:91", after := #[{ on := 9, ground := Ground.data }, { on := 6, ground := Ground.guard }], guard := some (6, true) }) (v := undef) rfl (by kernel_rfl) (by kernel_rfl) (by kernel_rfl) (fun _ _ _ h => h) (Or.inr ⟨by rfl, rfl⟩) hHeld ?_
                try simp only [Act.put, List.setIfInBounds_toArray, List.set_cons_zero, List.set_cons_succ]
                refine wpAnyH_take (i := 11) (oi := { dst := some 127, op := Op.move (Operand.tmp 1), type := 24, pos := "law.go:91", after := #[{ on := 6, ground := Ground.guard }], guard := some (6, true) }) (v := undef) rfl (by kernel_rfl) (by kernel_rfl) (by kernel_rfl) (fun _ _ _ h => h) (Or.inr ⟨by rfl, rfl⟩) hHeld ?_
                try simp only [Act.put, List.setIfInBounds_toArray, List.set_cons_zero, List.set_cons_succ]
                refine wpAnyH_take (i := 12) (oi := { dst := some 128, op := Op.move (Operand.tmp 15), type := 3, pos := "law.go:91", after := #[{ on := 6, ground := Ground.guard }], guard := some (6, true) }) (v := undef) rfl (by kernel_rfl) (by kernel_rfl) (by kernel_rfl) (fun _ _ _ h => h) (Or.inr ⟨by rfl, rfl⟩) hHeld ?_
                try simp only [Act.put, List.setIfInBounds_toArray, List.set_cons_zero, List.set_cons_succ]
                refine wpAnyH_take (i := 13) (oi := { dst := some 129, op := Op.indexAddr 24 (Operand.tmp 127) (Operand.tmp 128), type := 0, pos := "law.go:91", after := #[{ on := 11, ground := Ground.data }, { on := 12, ground := Ground.data }, { on := 6, ground := Ground.guard }], guard := some (6, true) }) (v := undef) rfl (by kernel_rfl) (by kernel_rfl) (by kernel_rfl) (fun _ _ _ h => h) (Or.inr ⟨by rfl, rfl⟩) hHeld ?_
                try simp only [Act.put, List.setIfInBounds_toArray, List.set_cons_zero, List.set_cons_succ]
                refine wpAnyH_take (i := 14) (oi := { dst := some 130, op := Op.load 26 (Operand.tmp 129), type := 26, pos := "law.go:91", after := #[{ on := 13, ground := Ground.data }, { on := 6, ground := Ground.guard }], guard := some (6, true) }) (v := undef) rfl (by kernel_rfl) (by kernel_rfl) (by kernel_rfl) (fun _ _ _ h => h) (Or.inr ⟨by rfl, rfl⟩) hHeld ?_
                try simp only [Act.put, List.setIfInBounds_toArray, List.set_cons_zero, List.set_cons_succ]
                refine wpAnyH_take (i := 15) (oi := { dst := some 131, op := Op.binOp BinOp.neq 26 (Operand.tmp 126) (Operand.tmp 130) 26, type := 4, pos := "law.go:91", after := #[{ on := 10, ground := Ground.data }, { on := 14, ground := Ground.data }, { on := 6, ground := Ground.guard }], guard := some (6, true) }) (v := undef) rfl (by kernel_rfl) (by kernel_rfl) (by kernel_rfl) (fun _ _ _ h => h) (Or.inr ⟨by rfl, rfl⟩) hHeld ?_
                try simp only [Act.put, List.setIfInBounds_toArray, List.set_cons_zero, List.set_cons_succ]
                refine wpAnyH_take (i := 16) (oi := { dst := some 132, op := Op.pick (Operand.tmp 122) (Operand.tmp 131) (Operand.const (Value.bool false)), type := 4, pos := "law.go:91", after := #[{ on := 6, ground := Ground.data }, { on := 15, ground := Ground.data }], guard := none }) (v := ?vex516) rfl (by kernel_rfl) (by kernel_rfl) (by kernel_rfl) (fun _ _ _ h => h) (Or.inl ⟨by rfl, ?hyex516⟩) hHeld ?_
                case hyex516 => (intro w hSw; (try dsimp only at hSw); go_simp; (try with_reducible rfl))
                try simp only [Act.put, List.setIfInBounds_toArray, List.set_cons_zero, List.set_cons_succ]
                refine wpAnyH_take (i := 17) (oi := { dst := some 133, op := Op.move (Operand.tmp 132), type := 4, pos := "law.go:91", after := #[{ on := 16, ground := Ground.data }, { on := 6, ground := Ground.chain }], guard := none }) (v := ?vex517) rfl (by kernel_rfl) (by kernel_rfl) (by kernel_rfl) (fun _ _ _ h => h) (Or.inl ⟨by rfl, ?hyex517⟩) hHeld ?_
                case hyex517 => (intro w hSw; (try dsimp only at hSw); go_simp; (try with_reducible rfl))
                try simp only [Act.put, List.setIfInBounds_toArray, List.set_cons_zero, List.set_cons_succ]
                refine wpAnyH_take (i := 18) (oi := { dst := some 134, op := Op.move (Operand.tmp 16), type := 4, pos := "law.go:91", after := #[{ on := 17, ground := Ground.guard }], guard := some (17, false) }) (v := ?vex518) rfl (by kernel_rfl) (by kernel_rfl) (by kernel_rfl) (fun _ _ _ h => h) (Or.inl ⟨by rfl, ?hyex518⟩) hHeld ?_
                case hyex518 => (intro w hSw; (try dsimp only at hSw); go_simp; (try with_reducible rfl))
                try simp only [Act.put, List.setIfInBounds_toArray, List.set_cons_zero, List.set_cons_succ]
                refine wpAnyH_take (i := 19) (oi := { dst := some 135, op := Op.move (Operand.tmp 134), type := 4, pos := "law.go:91", after := #[{ on := 18, ground := Ground.data }, { on := 17, ground := Ground.chain }, { on := 17, ground := Ground.guard }], guard := some (17, false) }) (v := ?vex519) rfl (by kernel_rfl) (by kernel_rfl) (by kernel_rfl) (fun _ _ _ h => h) (Or.inl ⟨by rfl, ?hyex519⟩) hHeld ?_
                case hyex519 => (intro w hSw; (try dsimp only at hSw); go_simp; (try with_reducible rfl))
                try simp only [Act.put, List.setIfInBounds_toArray, List.set_cons_zero, List.set_cons_succ]
                refine wpAnyH_take (i := 20) (oi := { dst := some 136, op := Op.move (Operand.tmp 13), type := 24, pos := "law.go:91", after := #[{ on := 19, ground := Ground.guard }], guard := some (19, true) }) (v := ?vex520) rfl (by kernel_rfl) (by kernel_rfl) (by kernel_rfl) (fun _ _ _ h => h) (Or.inl ⟨by rfl, ?hyex520⟩) hHeld ?_
                case hyex520 => (intro w hSw; (try dsimp only at hSw); go_simp; (try with_reducible rfl))
                try simp only [Act.put, List.setIfInBounds_toArray, List.set_cons_zero, List.set_cons_succ]
                refine wpAnyH_take (i := 21) (oi := { dst := some 137, op := Op.move (Operand.tmp 15), type := 3, pos := "law.go:91", after := #[{ on := 19, ground := Ground.guard }], guard := some (19, true) }) (v := ?vex521) rfl (by kernel_rfl) (by kernel_rfl) (by kernel_rfl) (fun _ _ _ h => h) (Or.inl ⟨by rfl, ?hyex521⟩) hHeld ?_
                case hyex521 => (intro w hSw; (try dsimp only at hSw); go_simp; (try with_reducible rfl))
                try simp only [Act.put, List.setIfInBounds_toArray, List.set_cons_zero, List.set_cons_succ]
                refine wpAnyH_take (i := 22) (oi := { dst := some 138, op := Op.indexAddr 24 (Operand.tmp 136) (Operand.tmp 137), type := 0, pos := "law.go:91", after := #[{ on := 20, ground := Ground.data }, { on := 21, ground := Ground.data }, { on := 19, ground := Ground.guard }], guard := some (19, true) }) (v := ?vex522) rfl (by kernel_rfl) (by kernel_rfl) (by kernel_rfl) (fun _ _ _ h => h) (Or.inl ⟨by rfl, ?hyex522⟩) hHeld ?_
                case hyex522 => (intro w hSw; (try dsimp only at hSw); go_simp; (try with_reducible rfl))
                try simp only [Act.put, List.setIfInBounds_toArray, List.set_cons_zero, List.set_cons_succ]
                refine wpAnyH_take (i := 23) (oi := { dst := some 139, op := Op.load 26 (Operand.tmp 138), type := 26, pos := "law.go:91", after := #[{ on := 22, ground := Ground.data }, { on := 19, ground := Ground.guard }], guard := some (19, true) }) (v := ?vex523) rfl (by kernel_rfl) (by kernel_rfl) (by kernel_rfl) (fun _ _ _ h => h) (Or.inl ⟨by rfl, ?hyex523⟩) hHeld ?_
                case hyex523 => (intro w hSw; (try dsimp only at hSw); go_simp; (try with_reducible rfl))
                try simp only [Act.put, List.setIfInBounds_toArray, List.set_cons_zero, List.set_cons_succ]
                refine wpAnyH_take (i := 24) (oi := { dst := some 140, op := Op.move (Operand.tmp 1), type := 24, pos := "law.go:91", after := #[{ on := 19, ground := Ground.guard }], guard := some (19, true) }) (v := ?vex524) rfl (by kernel_rfl) (by kernel_rfl) (by kernel_rfl) (fun _ _ _ h => h) (Or.inl ⟨by rfl, ?hyex524⟩) hHeld ?_
                case hyex524 => (intro w hSw; (try dsimp only at hSw); go_simp; (try with_reducible rfl))
                try simp only [Act.put, List.setIfInBounds_toArray, List.set_cons_zero, List.set_cons_succ]
                refine wpAnyH_take (i := 25) (oi := { dst := some 141, op := Op.move (Operand.tmp 15), type := 3, pos := "law.go:91", after := #[{ on := 19, ground := Ground.guard }], guard := some (19, true) }) (v := ?vex525) rfl (by kernel_rfl) (by kernel_rfl) (by kernel_rfl) (fun _ _ _ h => h) (Or.inl ⟨by rfl, ?hyex525⟩) hHeld ?_
                case hyex525 => (intro w hSw; (try dsimp only at hSw); go_simp; (try with_reducible rfl))
                try simp only [Act.put, List.setIfInBounds_toArray, List.set_cons_zero, List.set_cons_succ]
                refine wpAnyH_take (i := 26) (oi := { dst := some 142, op := Op.indexAddr 24 (Operand.tmp 140) (Operand.tmp 141), type := 0, pos := "law.go:91", after := #[{ on := 24, ground := Ground.data }, { on := 25, ground := Ground.data }, { on := 19, ground := Ground.guard }], guard := some (19, true) }) (v := ?vex526) rfl (by kernel_rfl) (by kernel_rfl) (by kernel_rfl) (fun _ _ _ h => h) (Or.inl ⟨by rfl, ?hyex526⟩) hHeld ?_
                case hyex526 => (intro w hSw; (try dsimp only at hSw); go_simp; (try with_reducible rfl))
                try simp only [Act.put, List.setIfInBounds_toArray, List.set_cons_zero, List.set_cons_succ]
                refine wpAnyH_take (i := 27) (oi := { dst := some 143, op := Op.load 26 (Operand.tmp 142), type := 26, pos := "law.go:91", after := #[{ on := 26, ground := Ground.data }, { on := 19, ground := Ground.guard }], guard := some (19, true) }) (v := ?vex527) rfl (by kernel_rfl) (by kernel_rfl) (by kernel_rfl) (fun _ _ _ h => h) (Or.inl ⟨by rfl, ?hyex527⟩) hHeld ?_
                case hyex527 => (intro w hSw; (try dsimp only at hSw); go_simp; (try with_reducible rfl))
                try simp only [Act.put, List.setIfInBounds_toArray, List.set_cons_zero, List.set_cons_succ]
                refine wpAnyH_take (i := 28) (oi := { dst := some 144, op := Op.binOp BinOp.neq 26 (Operand.tmp 139) (Operand.tmp 143) 26, type := 4, pos := "law.go:91", after := #[{ on := 23, ground := Ground.data }, { on := 27, ground := Ground.data }, { on := 19, ground := Ground.guard }], guard := some (19, true) }) (v := ?vex528) rfl (by kernel_rfl) (by kernel_rfl) (by kernel_rfl) (fun _ _ _ h => h) (Or.inl ⟨by rfl, ?hyex528⟩) hHeld ?_
                case hyex528 => (intro w hSw; (try dsimp only at hSw); go_simp; (try with_reducible rfl))
                try simp only [Act.put, List.setIfInBounds_toArray, List.set_cons_zero, List.set_cons_succ]
                refine wpAnyH_take (i := 29) (oi := { dst := some 145, op := Op.pick (Operand.tmp 135) (Operand.tmp 144) (Operand.const (Value.bool false)), type := 4, pos := "law.go:91", after := #[{ on := 19, ground := Ground.data }, { on := 28, ground := Ground.data }, { on := 17, ground := Ground.guard }], guard := some (17, false) }) (v := ?vex529) rfl (by kernel_rfl) (by kernel_rfl) (by kernel_rfl) (fun _ _ _ h => h) (Or.inl ⟨by rfl, ?hyex529⟩) hHeld ?_
                case hyex529 => (intro w hSw; (try dsimp only at hSw); go_simp; (try with_reducible rfl))
                try simp only [Act.put, List.setIfInBounds_toArray, List.set_cons_zero, List.set_cons_succ]
                refine wpAnyH_take (i := 30) (oi := { dst := some 146, op := Op.move (Operand.tmp 145), type := 4, pos := "law.go:91", after := #[{ on := 29, ground := Ground.data }, { on := 19, ground := Ground.chain }, { on := 17, ground := Ground.guard }], guard := some (17, false) }) (v := ?vex530) rfl (by kernel_rfl) (by kernel_rfl) (by kernel_rfl) (fun _ _ _ h => h) (Or.inl ⟨by rfl, ?hyex530⟩) hHeld ?_
                case hyex530 => (intro w hSw; (try dsimp only at hSw); go_simp; (try with_reducible rfl))
                try simp only [Act.put, List.setIfInBounds_toArray, List.set_cons_zero, List.set_cons_succ]
                refine wpAnyH_take (i := 31) (oi := { dst := some 147, op := Op.move (Operand.tmp 13), type := 24, pos := "law.go:91", after := #[{ on := 30, ground := Ground.guard }], guard := some (30, true) }) (v := undef) rfl (by kernel_rfl) (by kernel_rfl) (by kernel_rfl) (fun _ _ _ h => h) (Or.inr ⟨by rfl, rfl⟩) hHeld ?_
                try simp only [Act.put, List.setIfInBounds_toArray, List.set_cons_zero, List.set_cons_succ]
                refine wpAnyH_take (i := 32) (oi := { dst := some 148, op := Op.move (Operand.tmp 15), type := 3, pos := "law.go:91", after := #[{ on := 30, ground := Ground.guard }], guard := some (30, true) }) (v := undef) rfl (by kernel_rfl) (by kernel_rfl) (by kernel_rfl) (fun _ _ _ h => h) (Or.inr ⟨by rfl, rfl⟩) hHeld ?_
                try simp only [Act.put, List.setIfInBounds_toArray, List.set_cons_zero, List.set_cons_succ]
                refine wpAnyH_take (i := 33) (oi := { dst := some 149, op := Op.indexAddr 24 (Operand.tmp 147) (Operand.tmp 148), type := 0, pos := "law.go:91", after := #[{ on := 31, ground := Ground.data }, { on := 32, ground := Ground.data }, { on := 30, ground := Ground.guard }], guard := some (30, true) }) (v := undef) rfl (by kernel_rfl) (by kernel_rfl) (by kernel_rfl) (fun _ _ _ h => h) (Or.inr ⟨by rfl, rfl⟩) hHeld ?_
                try simp only [Act.put, List.setIfInBounds_toArray, List.set_cons_zero, List.set_cons_succ]
                refine wpAnyH_take (i := 34) (oi := { dst := some 150, op := Op.load 26 (Operand.tmp 149), type := 26, pos := "law.go:91", after := #[{ on := 33, ground := Ground.data }, { on := 30, ground := Ground.guard }], guard := some (30, true) }) (v := undef) rfl (by kernel_rfl) (by kernel_rfl) (by kernel_rfl) (fun _ _ _ h => h) (Or.inr ⟨by rfl, rfl⟩) hHeld ?_
                try simp only [Act.put, List.setIfInBounds_toArray, List.set_cons_zero, List.set_cons_succ]
                refine wpAnyH_take (i := 35) (oi := { dst := some 151, op := Op.binOp BinOp.neq 26 (Operand.tmp 150) (Operand.const (Value.int IntKind.u64 2)) 26, type := 4, pos := "law.go:91", after := #[{ on := 34, ground := Ground.data }, { on := 30, ground := Ground.guard }], guard := some (30, true) }) (v := undef) rfl (by kernel_rfl) (by kernel_rfl) (by kernel_rfl) (fun _ _ _ h => h) (Or.inr ⟨by rfl, rfl⟩) hHeld ?_
                try simp only [Act.put, List.setIfInBounds_toArray, List.set_cons_zero, List.set_cons_succ]
                refine wpAnyH_take (i := 36) (oi := { dst := some 152, op := Op.move (Operand.tmp 151), type := 4, pos := "law.go:91", after := #[{ on := 35, ground := Ground.data }, { on := 30, ground := Ground.chain }, { on := 30, ground := Ground.guard }], guard := some (30, true) }) (v := undef) rfl (by kernel_rfl) (by kernel_rfl) (by kernel_rfl) (fun _ _ _ h => h) (Or.inr ⟨by rfl, rfl⟩) hHeld ?_
                try simp only [Act.put, List.setIfInBounds_toArray, List.set_cons_zero, List.set_cons_succ]
                refine wpAnyH_take (i := 37) (oi := { dst := some 153, op := Op.move (Operand.tmp 1), type := 24, pos := "law.go:91", after := #[{ on := 36, ground := Ground.guard }], guard := some (36, false) }) (v := undef) rfl (by kernel_rfl) (by kernel_rfl) (by kernel_rfl) (fun _ _ _ h => h) (Or.inr ⟨by rfl, rfl⟩) hHeld ?_
                try simp only [Act.put, List.setIfInBounds_toArray, List.set_cons_zero, List.set_cons_succ]
                refine wpAnyH_take (i := 38) (oi := { dst := some 154, op := Op.move (Operand.tmp 15), type := 3, pos := "law.go:91", after := #[{ on := 36, ground := Ground.guard }], guard := some (36, false) }) (v := undef) rfl (by kernel_rfl) (by kernel_rfl) (by kernel_rfl) (fun _ _ _ h => h) (Or.inr ⟨by rfl, rfl⟩) hHeld ?_
                try simp only [Act.put, List.setIfInBounds_toArray, List.set_cons_zero, List.set_cons_succ]
                refine wpAnyH_take (i := 39) (oi := { dst := some 155, op := Op.indexAddr 24 (Operand.tmp 153) (Operand.tmp 154), type := 0, pos := "law.go:91", after := #[{ on := 37, ground := Ground.data }, { on := 38, ground := Ground.data }, { on := 36, ground := Ground.guard }], guard := some (36, false) }) (v := undef) rfl (by kernel_rfl) (by kernel_rfl) (by kernel_rfl) (fun _ _ _ h => h) (Or.inr ⟨by rfl, rfl⟩) hHeld ?_
                try simp only [Act.put, List.setIfInBounds_toArray, List.set_cons_zero, List.set_cons_succ]
                refine wpAnyH_take (i := 40) (oi := { dst := some 156, op := Op.load 26 (Operand.tmp 155), type := 26, pos := "law.go:91", after := #[{ on := 39, ground := Ground.data }, { on := 36, ground := Ground.guard }], guard := some (36, false) }) (v := undef) rfl (by kernel_rfl) (by kernel_rfl) (by kernel_rfl) (fun _ _ _ h => h) (Or.inr ⟨by rfl, rfl⟩) hHeld ?_
                try simp only [Act.put, List.setIfInBounds_toArray, List.set_cons_zero, List.set_cons_succ]
                refine wpAnyH_take (i := 41) (oi := { dst := some 157, op := Op.binOp BinOp.gtr 26 (Operand.tmp 156) (Operand.const (Value.int IntKind.u64 1)) 26, type := 4, pos := "law.go:91", after := #[{ on := 40, ground := Ground.data }, { on := 36, ground := Ground.guard }], guard := some (36, false) }) (v := undef) rfl (by kernel_rfl) (by kernel_rfl) (by kernel_rfl) (fun _ _ _ h => h) (Or.inr ⟨by rfl, rfl⟩) hHeld ?_
                try simp only [Act.put, List.setIfInBounds_toArray, List.set_cons_zero, List.set_cons_succ]
                refine wpAnyH_take (i := 42) (oi := { dst := some 158, op := Op.pick (Operand.tmp 152) (Operand.const (Value.bool true)) (Operand.tmp 157), type := 4, pos := "law.go:91", after := #[{ on := 36, ground := Ground.data }, { on := 41, ground := Ground.data }, { on := 30, ground := Ground.guard }], guard := some (30, true) }) (v := undef) rfl (by kernel_rfl) (by kernel_rfl) (by kernel_rfl) (fun _ _ _ h => h) (Or.inr ⟨by rfl, rfl⟩) hHeld ?_
                try simp only [Act.put, List.setIfInBounds_toArray, List.set_cons_zero, List.set_cons_succ]
                refine wpAnyH_take (i := 43) (oi := { dst := some 159, op := Op.pick (Operand.tmp 146) (Operand.tmp 158) (Operand.const (Value.bool false)), type := 4, pos := "law.go:91", after := #[{ on := 30, ground := Ground.data }, { on := 42, ground := Ground.data }, { on := 17, ground := Ground.guard }], guard := some (17, false) }) (v := ?vex543) rfl (by kernel_rfl) (by kernel_rfl) (by kernel_rfl) (fun _ _ _ h => h) (Or.inl ⟨by rfl, ?hyex543⟩) hHeld ?_
                case hyex543 => (intro w hSw; (try dsimp only at hSw); go_simp; (try with_reducible rfl))
                try simp only [Act.put, List.setIfInBounds_toArray, List.set_cons_zero, List.set_cons_succ]
                refine wpAnyH_take (i := 44) (oi := { dst := some 160, op := Op.pick (Operand.tmp 133) (Operand.const (Value.bool true)) (Operand.tmp 159), type := 4, pos := "law.go:91", after := #[{ on := 17, ground := Ground.data }, { on := 43, ground := Ground.data }], guard := none }) (v := ?vex544) rfl (by kernel_rfl) (by kernel_rfl) (by kernel_rfl) (fun _ _ _ h => h) (Or.inl ⟨by rfl, ?hyex544⟩) hHeld ?_
                case hyex544 => (intro w hSw; (try dsimp only at hSw); go_simp; (try with_reducible rfl))
                try simp only [Act.put, List.setIfInBounds_toArray, List.set_cons_zero, List.set_cons_succ]
                refine wpAnyH_done (by kernel_rfl) ?_ _
                have HZ3 := Lib.hid HZ.out.drew
                clear hHeld HZ
                have cz3 : wr.drew.cell? ⟨Z, k, none⟩ = some (.int .u64 fk) := cz
                have cw3 : wr.drew.cell? ⟨bz, off + k, none⟩ = some (.int .u64 fk) := cw
                clear cz cw
                generalize wr.drew = wd at *
                go_wp2_with fail
                go_roundw
                case rel => exact ⟨k + 1, by go_num, by omega, HZ3⟩
                case measure => simp [intOf]; omega
            · obtain ⟨hf01, hg2, hc1, hc2, ht1, ht2⟩ := hkk
              rw [hg2] at cz
              have cq1 := HZ.out.now.cell (j := k - 2) (by dsimp only; omega)
              have cq2 := HZ.out.now.cell (j := k - 1) (by dsimp only; omega)
              rw [hc1] at cq1
              rw [hc2] at cq2
              obtain ⟨u1, hu1, hu16⟩ := u64_nat' (HU.out (k - 2))
              obtain ⟨u2, hu2, hu26⟩ := u64_nat' (HU.out (k - 1))
              rw [hu1] at cq1 ht1
              rw [hu2] at cq2 ht2
              have HT1 := Lib.hid ht1; have HT2 := Lib.hid ht2
              have hgt : decide (1 < f k) = false := decide_eq_false (by omega)
              have hfe : (f k == 2) = false := by simp; omega
              have hne : ((2 : Int) != f k) = true := by simp; omega
              generalize f k = fk at *
              have hk2i : IntKind.i64.wrap ((k : Int) - 2) = ((k - 2 : Nat) : Int) := by rw [IntWalk.i64_in _ (by omega)]; omega
              have hk1i : IntKind.i64.wrap ((k : Int) - 1) = ((k - 1 : Nat) : Int) := by rw [IntWalk.i64_in _ (by omega)]; omega
              have hka : (0 : Int) ≤ ((k - 2 : Nat) : Int) := by omega
              have hkb : ((k - 2 : Nat) : Int) < (n : Int) := by omega
              have hkc : (0 : Int) ≤ ((k - 1 : Nat) : Int) := by omega
              have hkd : ((k - 1 : Nat) : Int) < (n : Int) := by omega
              clear hf01 hg2 hc1 hc2 ht1 ht2 hu1 hu2
              have HZq0 : Hid (wr.drew.cell? ⟨Z, k - 2, none⟩ = some (.int .u64 (u1 : Int)) ∧ wr.drew.cell? ⟨Z, k - 1, none⟩ = some (.int .u64 (u2 : Int))) := Lib.hid ⟨cq1, cq2⟩
              clear cq1 cq2
              go_wp2_with fail
              refine wp_region_held_drew (S := (fun w' => w'.cell? ⟨Z, k, none⟩ = some (.int .u64 2) ∧ w'.cell? ⟨bz, off + k, none⟩ = some (.int .u64 fk))) (by kernel_rfl) ?_ (fun hHeld => ?_)
              · exact ⟨cz, cw⟩
              refine wpAnyH_take (i := 0) (oi := { dst := some 116, op := Op.move (Operand.tmp 16), type := 4, pos := "law.go:91", after := #[], guard := none }) (v := ?vg0) rfl (by kernel_rfl) (by kernel_rfl) (by kernel_rfl) (fun _ _ _ h => h) (Or.inl ⟨by rfl, ?hyg0⟩) hHeld ?_
              case hyg0 => (intro w hSw; (try dsimp only at hSw); go_simp; (try with_reducible rfl))
              try simp only [Act.put, List.setIfInBounds_toArray, List.set_cons_zero, List.set_cons_succ]
              refine wpAnyH_take (i := 1) (oi := { dst := some 117, op := Op.unOp UnOp.not 4 (Operand.tmp 116), type := 4, pos := "law.go:91", after := #[{ on := 0, ground := Ground.data }], guard := none }) (v := ?vg1) rfl (by kernel_rfl) (by kernel_rfl) (by kernel_rfl) (fun _ _ _ h => h) (Or.inl ⟨by rfl, ?hyg1⟩) hHeld ?_
              case hyg1 => (intro w hSw; (try dsimp only at hSw); go_simp; (try with_reducible rfl))
              try simp only [Act.put, List.setIfInBounds_toArray, List.set_cons_zero, List.set_cons_succ]
              refine wpAnyH_take (i := 2) (oi := { dst := some 118, op := Op.move (Operand.tmp 117), type := 4, pos := "law.go:91", after := #[{ on := 1, ground := Ground.data }], guard := none }) (v := ?vg2) rfl (by kernel_rfl) (by kernel_rfl) (by kernel_rfl) (fun _ _ _ h => h) (Or.inl ⟨by rfl, ?hyg2⟩) hHeld ?_
              case hyg2 => (intro w hSw; (try dsimp only at hSw); go_simp; (try with_reducible rfl))
              try simp only [Act.put, List.setIfInBounds_toArray, List.set_cons_zero, List.set_cons_succ]
              refine wpAnyH_take (i := 3) (oi := { dst := some 119, op := Op.move (Operand.tmp 15), type := 3, pos := "law.go:91", after := #[{ on := 2, ground := Ground.guard }], guard := some (2, true) }) (v := undef) rfl (by kernel_rfl) (by kernel_rfl) (by kernel_rfl) (fun _ _ _ h => h) (Or.inr ⟨by rfl, rfl⟩) hHeld ?_
              try simp only [Act.put, List.setIfInBounds_toArray, List.set_cons_zero, List.set_cons_succ]
              refine wpAnyH_take (i := 4) (oi := { dst := some 120, op := Op.binOp BinOp.neq 3 (Operand.tmp 119) (Operand.const (Value.int IntKind.i64 2)) 3, type := 4, pos := "law.go:91", after := #[{ on := 3, ground := Ground.data }, { on := 2, ground := Ground.guard }], guard := some (2, true) }) (v := undef) rfl (by kernel_rfl) (by kernel_rfl) (by kernel_rfl) (fun _ _ _ h => h) (Or.inr ⟨by rfl, rfl⟩) hHeld ?_
              try simp only [Act.put, List.setIfInBounds_toArray, List.set_cons_zero, List.set_cons_succ]
              refine wpAnyH_take (i := 5) (oi := { dst := some 121, op := Op.pick (Operand.tmp 118) (Operand.tmp 120) (Operand.const (Value.bool false)), type := 4, pos := "law.go:91", after := #[{ on := 2, ground := Ground.data }, { on := 4, ground := Ground.data }], guard := none }) (v := ?vg5) rfl (by kernel_rfl) (by kernel_rfl) (by kernel_rfl) (fun _ _ _ h => h) (Or.inl ⟨by rfl, ?hyg5⟩) hHeld ?_
              case hyg5 => (intro w hSw; (try dsimp only at hSw); go_simp; (try with_reducible rfl))
              try simp only [Act.put, List.setIfInBounds_toArray, List.set_cons_zero, List.set_cons_succ]
              refine wpAnyH_take (i := 6) (oi := { dst := some 122, op := Op.move (Operand.tmp 121), type := 4, pos := "law.go:91", after := #[{ on := 5, ground := Ground.data }, { on := 2, ground := Ground.chain }], guard := none }) (v := ?vg6) rfl (by kernel_rfl) (by kernel_rfl) (by kernel_rfl) (fun _ _ _ h => h) (Or.inl ⟨by rfl, ?hyg6⟩) hHeld ?_
              case hyg6 => (intro w hSw; (try dsimp only at hSw); go_simp; (try with_reducible rfl))
              try simp only [Act.put, List.setIfInBounds_toArray, List.set_cons_zero, List.set_cons_succ]
              refine wpAnyH_take (i := 7) (oi := { dst := some 123, op := Op.move (Operand.tmp 13), type := 24, pos := "law.go:91", after := #[{ on := 6, ground := Ground.guard }], guard := some (6, true) }) (v := undef) rfl (by kernel_rfl) (by kernel_rfl) (by kernel_rfl) (fun _ _ _ h => h) (Or.inr ⟨by rfl, rfl⟩) hHeld ?_
              try simp only [Act.put, List.setIfInBounds_toArray, List.set_cons_zero, List.set_cons_succ]
              refine wpAnyH_take (i := 8) (oi := { dst := some 124, op := Op.move (Operand.tmp 15), type := 3, pos := "law.go:91", after := #[{ on := 6, ground := Ground.guard }], guard := some (6, true) }) (v := undef) rfl (by kernel_rfl) (by kernel_rfl) (by kernel_rfl) (fun _ _ _ h => h) (Or.inr ⟨by rfl, rfl⟩) hHeld ?_
              try simp only [Act.put, List.setIfInBounds_toArray, List.set_cons_zero, List.set_cons_succ]
              refine wpAnyH_take (i := 9) (oi := { dst := some 125, op := Op.indexAddr 24 (Operand.tmp 123) (Operand.tmp 124), type := 0, pos := "law.go:91", after := #[{ on := 7, ground := Ground.data }, { on := 8, ground := Ground.data }, { on := 6, ground := Ground.guard }], guard := some (6, true) }) (v := undef) rfl (by kernel_rfl) (by kernel_rfl) (by kernel_rfl) (fun _ _ _ h => h) (Or.inr ⟨by rfl, rfl⟩) hHeld ?_
              try simp only [Act.put, List.setIfInBounds_toArray, List.set_cons_zero, List.set_cons_succ]
              refine wpAnyH_take (i := 10) (oi := { dst := some 126, op := Op.load 26 (Operand.tmp 125), type := 26, pos := "law.go:91", after := #[{ on := 9, ground := Ground.data }, { on := 6, ground := Ground.guard }], guard := some (6, true) }) (v := undef) rfl (by kernel_rfl) (by kernel_rfl) (by kernel_rfl) (fun _ _ _ h => h) (Or.inr ⟨by rfl, rfl⟩) hHeld ?_
              try simp only [Act.put, List.setIfInBounds_toArray, List.set_cons_zero, List.set_cons_succ]
              refine wpAnyH_take (i := 11) (oi := { dst := some 127, op := Op.move (Operand.tmp 1), type := 24, pos := "law.go:91", after := #[{ on := 6, ground := Ground.guard }], guard := some (6, true) }) (v := undef) rfl (by kernel_rfl) (by kernel_rfl) (by kernel_rfl) (fun _ _ _ h => h) (Or.inr ⟨by rfl, rfl⟩) hHeld ?_
              try simp only [Act.put, List.setIfInBounds_toArray, List.set_cons_zero, List.set_cons_succ]
              refine wpAnyH_take (i := 12) (oi := { dst := some 128, op := Op.move (Operand.tmp 15), type := 3, pos := "law.go:91", after := #[{ on := 6, ground := Ground.guard }], guard := some (6, true) }) (v := undef) rfl (by kernel_rfl) (by kernel_rfl) (by kernel_rfl) (fun _ _ _ h => h) (Or.inr ⟨by rfl, rfl⟩) hHeld ?_
              try simp only [Act.put, List.setIfInBounds_toArray, List.set_cons_zero, List.set_cons_succ]
              refine wpAnyH_take (i := 13) (oi := { dst := some 129, op := Op.indexAddr 24 (Operand.tmp 127) (Operand.tmp 128), type := 0, pos := "law.go:91", after := #[{ on := 11, ground := Ground.data }, { on := 12, ground := Ground.data }, { on := 6, ground := Ground.guard }], guard := some (6, true) }) (v := undef) rfl (by kernel_rfl) (by kernel_rfl) (by kernel_rfl) (fun _ _ _ h => h) (Or.inr ⟨by rfl, rfl⟩) hHeld ?_
              try simp only [Act.put, List.setIfInBounds_toArray, List.set_cons_zero, List.set_cons_succ]
              refine wpAnyH_take (i := 14) (oi := { dst := some 130, op := Op.load 26 (Operand.tmp 129), type := 26, pos := "law.go:91", after := #[{ on := 13, ground := Ground.data }, { on := 6, ground := Ground.guard }], guard := some (6, true) }) (v := undef) rfl (by kernel_rfl) (by kernel_rfl) (by kernel_rfl) (fun _ _ _ h => h) (Or.inr ⟨by rfl, rfl⟩) hHeld ?_
              try simp only [Act.put, List.setIfInBounds_toArray, List.set_cons_zero, List.set_cons_succ]
              refine wpAnyH_take (i := 15) (oi := { dst := some 131, op := Op.binOp BinOp.neq 26 (Operand.tmp 126) (Operand.tmp 130) 26, type := 4, pos := "law.go:91", after := #[{ on := 10, ground := Ground.data }, { on := 14, ground := Ground.data }, { on := 6, ground := Ground.guard }], guard := some (6, true) }) (v := undef) rfl (by kernel_rfl) (by kernel_rfl) (by kernel_rfl) (fun _ _ _ h => h) (Or.inr ⟨by rfl, rfl⟩) hHeld ?_
              try simp only [Act.put, List.setIfInBounds_toArray, List.set_cons_zero, List.set_cons_succ]
              refine wpAnyH_take (i := 16) (oi := { dst := some 132, op := Op.pick (Operand.tmp 122) (Operand.tmp 131) (Operand.const (Value.bool false)), type := 4, pos := "law.go:91", after := #[{ on := 6, ground := Ground.data }, { on := 15, ground := Ground.data }], guard := none }) (v := ?vg16) rfl (by kernel_rfl) (by kernel_rfl) (by kernel_rfl) (fun _ _ _ h => h) (Or.inl ⟨by rfl, ?hyg16⟩) hHeld ?_
              case hyg16 => (intro w hSw; (try dsimp only at hSw); go_simp; (try with_reducible rfl))
              try simp only [Act.put, List.setIfInBounds_toArray, List.set_cons_zero, List.set_cons_succ]
              refine wpAnyH_take (i := 17) (oi := { dst := some 133, op := Op.move (Operand.tmp 132), type := 4, pos := "law.go:91", after := #[{ on := 16, ground := Ground.data }, { on := 6, ground := Ground.chain }], guard := none }) (v := ?vg17) rfl (by kernel_rfl) (by kernel_rfl) (by kernel_rfl) (fun _ _ _ h => h) (Or.inl ⟨by rfl, ?hyg17⟩) hHeld ?_
              case hyg17 => (intro w hSw; (try dsimp only at hSw); go_simp; (try with_reducible rfl))
              try simp only [Act.put, List.setIfInBounds_toArray, List.set_cons_zero, List.set_cons_succ]
              refine wpAnyH_take (i := 18) (oi := { dst := some 134, op := Op.move (Operand.tmp 16), type := 4, pos := "law.go:91", after := #[{ on := 17, ground := Ground.guard }], guard := some (17, false) }) (v := ?vg18) rfl (by kernel_rfl) (by kernel_rfl) (by kernel_rfl) (fun _ _ _ h => h) (Or.inl ⟨by rfl, ?hyg18⟩) hHeld ?_
              case hyg18 => (intro w hSw; (try dsimp only at hSw); go_simp; (try with_reducible rfl))
              try simp only [Act.put, List.setIfInBounds_toArray, List.set_cons_zero, List.set_cons_succ]
              refine wpAnyH_take (i := 19) (oi := { dst := some 135, op := Op.move (Operand.tmp 134), type := 4, pos := "law.go:91", after := #[{ on := 18, ground := Ground.data }, { on := 17, ground := Ground.chain }, { on := 17, ground := Ground.guard }], guard := some (17, false) }) (v := ?vg19) rfl (by kernel_rfl) (by kernel_rfl) (by kernel_rfl) (fun _ _ _ h => h) (Or.inl ⟨by rfl, ?hyg19⟩) hHeld ?_
              case hyg19 => (intro w hSw; (try dsimp only at hSw); go_simp; (try with_reducible rfl))
              try simp only [Act.put, List.setIfInBounds_toArray, List.set_cons_zero, List.set_cons_succ]
              refine wpAnyH_take (i := 20) (oi := { dst := some 136, op := Op.move (Operand.tmp 13), type := 24, pos := "law.go:91", after := #[{ on := 19, ground := Ground.guard }], guard := some (19, true) }) (v := ?vg20) rfl (by kernel_rfl) (by kernel_rfl) (by kernel_rfl) (fun _ _ _ h => h) (Or.inl ⟨by rfl, ?hyg20⟩) hHeld ?_
              case hyg20 => (intro w hSw; (try dsimp only at hSw); go_simp; (try with_reducible rfl))
              try simp only [Act.put, List.setIfInBounds_toArray, List.set_cons_zero, List.set_cons_succ]
              refine wpAnyH_take (i := 21) (oi := { dst := some 137, op := Op.move (Operand.tmp 15), type := 3, pos := "law.go:91", after := #[{ on := 19, ground := Ground.guard }], guard := some (19, true) }) (v := ?vg21) rfl (by kernel_rfl) (by kernel_rfl) (by kernel_rfl) (fun _ _ _ h => h) (Or.inl ⟨by rfl, ?hyg21⟩) hHeld ?_
              case hyg21 => (intro w hSw; (try dsimp only at hSw); go_simp; (try with_reducible rfl))
              try simp only [Act.put, List.setIfInBounds_toArray, List.set_cons_zero, List.set_cons_succ]
              refine wpAnyH_take (i := 22) (oi := { dst := some 138, op := Op.indexAddr 24 (Operand.tmp 136) (Operand.tmp 137), type := 0, pos := "law.go:91", after := #[{ on := 20, ground := Ground.data }, { on := 21, ground := Ground.data }, { on := 19, ground := Ground.guard }], guard := some (19, true) }) (v := ?vg22) rfl (by kernel_rfl) (by kernel_rfl) (by kernel_rfl) (fun _ _ _ h => h) (Or.inl ⟨by rfl, ?hyg22⟩) hHeld ?_
              case hyg22 => (intro w hSw; (try dsimp only at hSw); go_simp; (try with_reducible rfl))
              try simp only [Act.put, List.setIfInBounds_toArray, List.set_cons_zero, List.set_cons_succ]
              refine wpAnyH_take (i := 23) (oi := { dst := some 139, op := Op.load 26 (Operand.tmp 138), type := 26, pos := "law.go:91", after := #[{ on := 22, ground := Ground.data }, { on := 19, ground := Ground.guard }], guard := some (19, true) }) (v := ?vg23) rfl (by kernel_rfl) (by kernel_rfl) (by kernel_rfl) (fun _ _ _ h => h) (Or.inl ⟨by rfl, ?hyg23⟩) hHeld ?_
              case hyg23 => (intro w hSw; (try dsimp only at hSw); go_simp; (try with_reducible rfl))
              try simp only [Act.put, List.setIfInBounds_toArray, List.set_cons_zero, List.set_cons_succ]
              refine wpAnyH_take (i := 24) (oi := { dst := some 140, op := Op.move (Operand.tmp 1), type := 24, pos := "law.go:91", after := #[{ on := 19, ground := Ground.guard }], guard := some (19, true) }) (v := ?vg24) rfl (by kernel_rfl) (by kernel_rfl) (by kernel_rfl) (fun _ _ _ h => h) (Or.inl ⟨by rfl, ?hyg24⟩) hHeld ?_
              case hyg24 => (intro w hSw; (try dsimp only at hSw); go_simp; (try with_reducible rfl))
              try simp only [Act.put, List.setIfInBounds_toArray, List.set_cons_zero, List.set_cons_succ]
              refine wpAnyH_take (i := 25) (oi := { dst := some 141, op := Op.move (Operand.tmp 15), type := 3, pos := "law.go:91", after := #[{ on := 19, ground := Ground.guard }], guard := some (19, true) }) (v := ?vg25) rfl (by kernel_rfl) (by kernel_rfl) (by kernel_rfl) (fun _ _ _ h => h) (Or.inl ⟨by rfl, ?hyg25⟩) hHeld ?_
              case hyg25 => (intro w hSw; (try dsimp only at hSw); go_simp; (try with_reducible rfl))
              try simp only [Act.put, List.setIfInBounds_toArray, List.set_cons_zero, List.set_cons_succ]
              refine wpAnyH_take (i := 26) (oi := { dst := some 142, op := Op.indexAddr 24 (Operand.tmp 140) (Operand.tmp 141), type := 0, pos := "law.go:91", after := #[{ on := 24, ground := Ground.data }, { on := 25, ground := Ground.data }, { on := 19, ground := Ground.guard }], guard := some (19, true) }) (v := ?vg26) rfl (by kernel_rfl) (by kernel_rfl) (by kernel_rfl) (fun _ _ _ h => h) (Or.inl ⟨by rfl, ?hyg26⟩) hHeld ?_
              case hyg26 => (intro w hSw; (try dsimp only at hSw); go_simp; (try with_reducible rfl))
              try simp only [Act.put, List.setIfInBounds_toArray, List.set_cons_zero, List.set_cons_succ]
              refine wpAnyH_take (i := 27) (oi := { dst := some 143, op := Op.load 26 (Operand.tmp 142), type := 26, pos := "law.go:91", after := #[{ on := 26, ground := Ground.data }, { on := 19, ground := Ground.guard }], guard := some (19, true) }) (v := ?vg27) rfl (by kernel_rfl) (by kernel_rfl) (by kernel_rfl) (fun _ _ _ h => h) (Or.inl ⟨by rfl, ?hyg27⟩) hHeld ?_
              case hyg27 => (intro w hSw; (try dsimp only at hSw); go_simp; (try with_reducible rfl))
              try simp only [Act.put, List.setIfInBounds_toArray, List.set_cons_zero, List.set_cons_succ]
              refine wpAnyH_take (i := 28) (oi := { dst := some 144, op := Op.binOp BinOp.neq 26 (Operand.tmp 139) (Operand.tmp 143) 26, type := 4, pos := "law.go:91", after := #[{ on := 23, ground := Ground.data }, { on := 27, ground := Ground.data }, { on := 19, ground := Ground.guard }], guard := some (19, true) }) (v := ?vg28) rfl (by kernel_rfl) (by kernel_rfl) (by kernel_rfl) (fun _ _ _ h => h) (Or.inl ⟨by rfl, ?hyg28⟩) hHeld ?_
              case hyg28 => (intro w hSw; (try dsimp only at hSw); go_simp; (try with_reducible rfl))
              try simp only [Act.put, List.setIfInBounds_toArray, List.set_cons_zero, List.set_cons_succ]
              refine wpAnyH_take (i := 29) (oi := { dst := some 145, op := Op.pick (Operand.tmp 135) (Operand.tmp 144) (Operand.const (Value.bool false)), type := 4, pos := "law.go:91", after := #[{ on := 19, ground := Ground.data }, { on := 28, ground := Ground.data }, { on := 17, ground := Ground.guard }], guard := some (17, false) }) (v := ?vg29) rfl (by kernel_rfl) (by kernel_rfl) (by kernel_rfl) (fun _ _ _ h => h) (Or.inl ⟨by rfl, ?hyg29⟩) hHeld ?_
              case hyg29 => (intro w hSw; (try dsimp only at hSw); go_simp; (try with_reducible rfl))
              try simp only [Act.put, List.setIfInBounds_toArray, List.set_cons_zero, List.set_cons_succ]
              refine wpAnyH_take (i := 30) (oi := { dst := some 146, op := Op.move (Operand.tmp 145), type := 4, pos := "law.go:91", after := #[{ on := 29, ground := Ground.data }, { on := 19, ground := Ground.chain }, { on := 17, ground := Ground.guard }], guard := some (17, false) }) (v := ?vg30) rfl (by kernel_rfl) (by kernel_rfl) (by kernel_rfl) (fun _ _ _ h => h) (Or.inl ⟨by rfl, ?hyg30⟩) hHeld ?_
              case hyg30 => (intro w hSw; (try dsimp only at hSw); go_simp; (try with_reducible rfl))
              try simp only [Act.put, List.setIfInBounds_toArray, List.set_cons_zero, List.set_cons_succ]
              refine wpAnyH_take (i := 31) (oi := { dst := some 147, op := Op.move (Operand.tmp 13), type := 24, pos := "law.go:91", after := #[{ on := 30, ground := Ground.guard }], guard := some (30, true) }) (v := ?vg31) rfl (by kernel_rfl) (by kernel_rfl) (by kernel_rfl) (fun _ _ _ h => h) (Or.inl ⟨by rfl, ?hyg31⟩) hHeld ?_
              case hyg31 => (intro w hSw; (try dsimp only at hSw); go_simp; (try with_reducible rfl))
              try simp only [Act.put, List.setIfInBounds_toArray, List.set_cons_zero, List.set_cons_succ]
              refine wpAnyH_take (i := 32) (oi := { dst := some 148, op := Op.move (Operand.tmp 15), type := 3, pos := "law.go:91", after := #[{ on := 30, ground := Ground.guard }], guard := some (30, true) }) (v := ?vg32) rfl (by kernel_rfl) (by kernel_rfl) (by kernel_rfl) (fun _ _ _ h => h) (Or.inl ⟨by rfl, ?hyg32⟩) hHeld ?_
              case hyg32 => (intro w hSw; (try dsimp only at hSw); go_simp; (try with_reducible rfl))
              try simp only [Act.put, List.setIfInBounds_toArray, List.set_cons_zero, List.set_cons_succ]
              refine wpAnyH_take (i := 33) (oi := { dst := some 149, op := Op.indexAddr 24 (Operand.tmp 147) (Operand.tmp 148), type := 0, pos := "law.go:91", after := #[{ on := 31, ground := Ground.data }, { on := 32, ground := Ground.data }, { on := 30, ground := Ground.guard }], guard := some (30, true) }) (v := ?vg33) rfl (by kernel_rfl) (by kernel_rfl) (by kernel_rfl) (fun _ _ _ h => h) (Or.inl ⟨by rfl, ?hyg33⟩) hHeld ?_
              case hyg33 => (intro w hSw; (try dsimp only at hSw); go_simp; (try with_reducible rfl))
              try simp only [Act.put, List.setIfInBounds_toArray, List.set_cons_zero, List.set_cons_succ]
              refine wpAnyH_take (i := 34) (oi := { dst := some 150, op := Op.load 26 (Operand.tmp 149), type := 26, pos := "law.go:91", after := #[{ on := 33, ground := Ground.data }, { on := 30, ground := Ground.guard }], guard := some (30, true) }) (v := ?vg34) rfl (by kernel_rfl) (by kernel_rfl) (by kernel_rfl) (fun _ _ _ h => h) (Or.inl ⟨by rfl, ?hyg34⟩) hHeld ?_
              case hyg34 => (intro w hSw; (try dsimp only at hSw); go_simp; (try with_reducible rfl))
              try simp only [Act.put, List.setIfInBounds_toArray, List.set_cons_zero, List.set_cons_succ]
              refine wpAnyH_take (i := 35) (oi := { dst := some 151, op := Op.binOp BinOp.neq 26 (Operand.tmp 150) (Operand.const (Value.int IntKind.u64 2)) 26, type := 4, pos := "law.go:91", after := #[{ on := 34, ground := Ground.data }, { on := 30, ground := Ground.guard }], guard := some (30, true) }) (v := ?vg35) rfl (by kernel_rfl) (by kernel_rfl) (by kernel_rfl) (fun _ _ _ h => h) (Or.inl ⟨by rfl, ?hyg35⟩) hHeld ?_
              case hyg35 => (intro w hSw; (try dsimp only at hSw); go_simp; (try with_reducible rfl))
              try simp only [Act.put, List.setIfInBounds_toArray, List.set_cons_zero, List.set_cons_succ]
              refine wpAnyH_take (i := 36) (oi := { dst := some 152, op := Op.move (Operand.tmp 151), type := 4, pos := "law.go:91", after := #[{ on := 35, ground := Ground.data }, { on := 30, ground := Ground.chain }, { on := 30, ground := Ground.guard }], guard := some (30, true) }) (v := ?vg36) rfl (by kernel_rfl) (by kernel_rfl) (by kernel_rfl) (fun _ _ _ h => h) (Or.inl ⟨by rfl, ?hyg36⟩) hHeld ?_
              case hyg36 => (intro w hSw; (try dsimp only at hSw); go_simp; (try with_reducible rfl))
              try simp only [Act.put, List.setIfInBounds_toArray, List.set_cons_zero, List.set_cons_succ]
              refine wpAnyH_take (i := 37) (oi := { dst := some 153, op := Op.move (Operand.tmp 1), type := 24, pos := "law.go:91", after := #[{ on := 36, ground := Ground.guard }], guard := some (36, false) }) (v := ?vg37) rfl (by kernel_rfl) (by kernel_rfl) (by kernel_rfl) (fun _ _ _ h => h) (Or.inl ⟨by rfl, ?hyg37⟩) hHeld ?_
              case hyg37 => (intro w hSw; (try dsimp only at hSw); go_simp; (try with_reducible rfl))
              try simp only [Act.put, List.setIfInBounds_toArray, List.set_cons_zero, List.set_cons_succ]
              refine wpAnyH_take (i := 38) (oi := { dst := some 154, op := Op.move (Operand.tmp 15), type := 3, pos := "law.go:91", after := #[{ on := 36, ground := Ground.guard }], guard := some (36, false) }) (v := ?vg38) rfl (by kernel_rfl) (by kernel_rfl) (by kernel_rfl) (fun _ _ _ h => h) (Or.inl ⟨by rfl, ?hyg38⟩) hHeld ?_
              case hyg38 => (intro w hSw; (try dsimp only at hSw); go_simp; (try with_reducible rfl))
              try simp only [Act.put, List.setIfInBounds_toArray, List.set_cons_zero, List.set_cons_succ]
              refine wpAnyH_take (i := 39) (oi := { dst := some 155, op := Op.indexAddr 24 (Operand.tmp 153) (Operand.tmp 154), type := 0, pos := "law.go:91", after := #[{ on := 37, ground := Ground.data }, { on := 38, ground := Ground.data }, { on := 36, ground := Ground.guard }], guard := some (36, false) }) (v := ?vg39) rfl (by kernel_rfl) (by kernel_rfl) (by kernel_rfl) (fun _ _ _ h => h) (Or.inl ⟨by rfl, ?hyg39⟩) hHeld ?_
              case hyg39 => (intro w hSw; (try dsimp only at hSw); go_simp; (try with_reducible rfl))
              try simp only [Act.put, List.setIfInBounds_toArray, List.set_cons_zero, List.set_cons_succ]
              refine wpAnyH_take (i := 40) (oi := { dst := some 156, op := Op.load 26 (Operand.tmp 155), type := 26, pos := "law.go:91", after := #[{ on := 39, ground := Ground.data }, { on := 36, ground := Ground.guard }], guard := some (36, false) }) (v := ?vg40) rfl (by kernel_rfl) (by kernel_rfl) (by kernel_rfl) (fun _ _ _ h => h) (Or.inl ⟨by rfl, ?hyg40⟩) hHeld ?_
              case hyg40 => (intro w hSw; (try dsimp only at hSw); go_simp; (try with_reducible rfl))
              try simp only [Act.put, List.setIfInBounds_toArray, List.set_cons_zero, List.set_cons_succ]
              refine wpAnyH_take (i := 41) (oi := { dst := some 157, op := Op.binOp BinOp.gtr 26 (Operand.tmp 156) (Operand.const (Value.int IntKind.u64 1)) 26, type := 4, pos := "law.go:91", after := #[{ on := 40, ground := Ground.data }, { on := 36, ground := Ground.guard }], guard := some (36, false) }) (v := ?vg41) rfl (by kernel_rfl) (by kernel_rfl) (by kernel_rfl) (fun _ _ _ h => h) (Or.inl ⟨by rfl, ?hyg41⟩) hHeld ?_
              case hyg41 => (intro w hSw; (try dsimp only at hSw); go_simp; (try with_reducible rfl))
              try simp only [Act.put, List.setIfInBounds_toArray, List.set_cons_zero, List.set_cons_succ]
              refine wpAnyH_take (i := 42) (oi := { dst := some 158, op := Op.pick (Operand.tmp 152) (Operand.const (Value.bool true)) (Operand.tmp 157), type := 4, pos := "law.go:91", after := #[{ on := 36, ground := Ground.data }, { on := 41, ground := Ground.data }, { on := 30, ground := Ground.guard }], guard := some (30, true) }) (v := ?vg42) rfl (by kernel_rfl) (by kernel_rfl) (by kernel_rfl) (fun _ _ _ h => h) (Or.inl ⟨by rfl, ?hyg42⟩) hHeld ?_
              case hyg42 => (intro w hSw; (try dsimp only at hSw); go_simp; (try with_reducible rfl))
              try simp only [Act.put, List.setIfInBounds_toArray, List.set_cons_zero, List.set_cons_succ]
              refine wpAnyH_take (i := 43) (oi := { dst := some 159, op := Op.pick (Operand.tmp 146) (Operand.tmp 158) (Operand.const (Value.bool false)), type := 4, pos := "law.go:91", after := #[{ on := 30, ground := Ground.data }, { on := 42, ground := Ground.data }, { on := 17, ground := Ground.guard }], guard := some (17, false) }) (v := ?vg43) rfl (by kernel_rfl) (by kernel_rfl) (by kernel_rfl) (fun _ _ _ h => h) (Or.inl ⟨by rfl, ?hyg43⟩) hHeld ?_
              case hyg43 => (intro w hSw; (try dsimp only at hSw); go_simp; (try with_reducible rfl))
              try simp only [Act.put, List.setIfInBounds_toArray, List.set_cons_zero, List.set_cons_succ]
              refine wpAnyH_take (i := 44) (oi := { dst := some 160, op := Op.pick (Operand.tmp 133) (Operand.const (Value.bool true)) (Operand.tmp 159), type := 4, pos := "law.go:91", after := #[{ on := 17, ground := Ground.data }, { on := 43, ground := Ground.data }], guard := none }) (v := ?vg44) rfl (by kernel_rfl) (by kernel_rfl) (by kernel_rfl) (fun _ _ _ h => h) (Or.inl ⟨by rfl, ?hyg44⟩) hHeld ?_
              case hyg44 => (intro w hSw; (try dsimp only at hSw); go_simp; (try with_reducible rfl))
              try simp only [Act.put, List.setIfInBounds_toArray, List.set_cons_zero, List.set_cons_succ]
              refine wpAnyH_done (by kernel_rfl) ?_ _
              have HZ3 := Lib.hid HZ.out.drew
              clear hHeld HZ
              have cz3 : wr.drew.cell? ⟨Z, k, none⟩ = some (.int .u64 2) := cz
              have cw3 : wr.drew.cell? ⟨bz, off + k, none⟩ = some (.int .u64 fk) := cw
              clear cz cw
              have HZq := HZq0
              clear HZq0
              generalize wr.drew = wd at *
              have q1 : wd.drew.cell? ⟨Z, k - 2, none⟩ = some (.int .u64 (u1 : Int)) := HZq.out.1
              have q2 : wd.drew.cell? ⟨Z, k - 1, none⟩ = some (.int .u64 (u2 : Int)) := HZq.out.2
              go_wp2_with fail
              clear cz3 cw3 hgt hfe hne
              refine wp_region_held_drew (S := (fun w' => w'.cell? ⟨Z, k - 2, none⟩ = some (.int .u64 (u1 : Int)) ∧ w'.cell? ⟨Z, k - 1, none⟩ = some (.int .u64 (u2 : Int)))) (by kernel_rfl) ?_ (fun hHeld => ?_)
              · exact ⟨q1, q2⟩
              refine wpAnyH_take (i := 0) (oi := { dst := some 177, op := Op.move (Operand.tmp 13), type := 24, pos := "law.go:97", after := #[], guard := none }) (v := ?vh0) rfl (by kernel_rfl) (by kernel_rfl) (by kernel_rfl) (fun _ _ _ h => h) (Or.inl ⟨by rfl, ?hyh0⟩) hHeld ?_
              case hyh0 => (intro w hSw; (try dsimp only at hSw); go_simp; (try with_reducible rfl))
              try simp only [Act.put, List.setIfInBounds_toArray, List.set_cons_zero, List.set_cons_succ]
              refine wpAnyH_take (i := 1) (oi := { dst := some 178, op := Op.move (Operand.tmp 15), type := 3, pos := "law.go:97", after := #[], guard := none }) (v := ?vh1) rfl (by kernel_rfl) (by kernel_rfl) (by kernel_rfl) (fun _ _ _ h => h) (Or.inl ⟨by rfl, ?hyh1⟩) hHeld ?_
              case hyh1 => (intro w hSw; (try dsimp only at hSw); go_simp; (try with_reducible rfl))
              try simp only [Act.put, List.setIfInBounds_toArray, List.set_cons_zero, List.set_cons_succ]
              refine wpAnyH_take (i := 2) (oi := { dst := some 179, op := Op.binOp BinOp.sub 3 (Operand.tmp 178) (Operand.const (Value.int IntKind.i64 2)) 3, type := 3, pos := "law.go:97", after := #[{ on := 1, ground := Ground.data }], guard := none }) (v := ?vh2) rfl (by kernel_rfl) (by kernel_rfl) (by kernel_rfl) (fun _ _ _ h => h) (Or.inl ⟨by rfl, ?hyh2⟩) hHeld ?_
              case hyh2 => (intro w hSw; (try dsimp only at hSw); go_simp; (try with_reducible rfl))
              try simp only [Act.put, List.setIfInBounds_toArray, List.set_cons_zero, List.set_cons_succ]
              refine wpAnyH_take (i := 3) (oi := { dst := some 180, op := Op.indexAddr 24 (Operand.tmp 177) (Operand.tmp 179), type := 0, pos := "law.go:97", after := #[{ on := 0, ground := Ground.data }, { on := 2, ground := Ground.data }], guard := none }) (v := ?vh3) rfl (by kernel_rfl) (by kernel_rfl) (by kernel_rfl) (fun _ _ _ h => h) (Or.inl ⟨by rfl, ?hyh3⟩) hHeld ?_
              case hyh3 => (intro w hSw; (try dsimp only at hSw); go_simp; (try with_reducible rfl))
              try simp only [Act.put, List.setIfInBounds_toArray, List.set_cons_zero, List.set_cons_succ]
              refine wpAnyH_take (i := 4) (oi := { dst := some 181, op := Op.load 26 (Operand.tmp 180), type := 26, pos := "law.go:97", after := #[{ on := 3, ground := Ground.data }], guard := none }) (v := ?vh4) rfl (by kernel_rfl) (by kernel_rfl) (by kernel_rfl) (fun _ _ _ h => h) (Or.inl ⟨by rfl, ?hyh4⟩) hHeld ?_
              case hyh4 => (intro w hSw; (try dsimp only at hSw); go_simp; (try with_reducible rfl))
              try simp only [Act.put, List.setIfInBounds_toArray, List.set_cons_zero, List.set_cons_succ]
              refine wpAnyH_take (i := 5) (oi := { dst := some 182, op := Op.move (Operand.tmp 13), type := 24, pos := "law.go:97", after := #[], guard := none }) (v := ?vh5) rfl (by kernel_rfl) (by kernel_rfl) (by kernel_rfl) (fun _ _ _ h => h) (Or.inl ⟨by rfl, ?hyh5⟩) hHeld ?_
              case hyh5 => (intro w hSw; (try dsimp only at hSw); go_simp; (try with_reducible rfl))
              try simp only [Act.put, List.setIfInBounds_toArray, List.set_cons_zero, List.set_cons_succ]
              refine wpAnyH_take (i := 6) (oi := { dst := some 183, op := Op.move (Operand.tmp 15), type := 3, pos := "law.go:97", after := #[], guard := none }) (v := ?vh6) rfl (by kernel_rfl) (by kernel_rfl) (by kernel_rfl) (fun _ _ _ h => h) (Or.inl ⟨by rfl, ?hyh6⟩) hHeld ?_
              case hyh6 => (intro w hSw; (try dsimp only at hSw); go_simp; (try with_reducible rfl))
              try simp only [Act.put, List.setIfInBounds_toArray, List.set_cons_zero, List.set_cons_succ]
              refine wpAnyH_take (i := 7) (oi := { dst := some 184, op := Op.binOp BinOp.sub 3 (Operand.tmp 183) (Operand.const (Value.int IntKind.i64 1)) 3, type := 3, pos := "law.go:97", after := #[{ on := 6, ground := Ground.data }], guard := none }) (v := ?vh7) rfl (by kernel_rfl) (by kernel_rfl) (by kernel_rfl) (fun _ _ _ h => h) (Or.inl ⟨by rfl, ?hyh7⟩) hHeld ?_
              case hyh7 => (intro w hSw; (try dsimp only at hSw); go_simp; (try with_reducible rfl))
              try simp only [Act.put, List.setIfInBounds_toArray, List.set_cons_zero, List.set_cons_succ]
              refine wpAnyH_take (i := 8) (oi := { dst := some 185, op := Op.indexAddr 24 (Operand.tmp 182) (Operand.tmp 184), type := 0, pos := "law.go:97", after := #[{ on := 5, ground := Ground.data }, { on := 7, ground := Ground.data }], guard := none }) (v := ?vh8) rfl (by kernel_rfl) (by kernel_rfl) (by kernel_rfl) (fun _ _ _ h => h) (Or.inl ⟨by rfl, ?hyh8⟩) hHeld ?_
              case hyh8 => (intro w hSw; (try dsimp only at hSw); go_simp; (try with_reducible rfl))
              try simp only [Act.put, List.setIfInBounds_toArray, List.set_cons_zero, List.set_cons_succ]
              refine wpAnyH_take (i := 9) (oi := { dst := some 186, op := Op.load 26 (Operand.tmp 185), type := 26, pos := "law.go:97", after := #[{ on := 8, ground := Ground.data }], guard := none }) (v := ?vh9) rfl (by kernel_rfl) (by kernel_rfl) (by kernel_rfl) (fun _ _ _ h => h) (Or.inl ⟨by rfl, ?hyh9⟩) hHeld ?_
              case hyh9 => (intro w hSw; (try dsimp only at hSw); go_simp; (try with_reducible rfl))
              try simp only [Act.put, List.setIfInBounds_toArray, List.set_cons_zero, List.set_cons_succ]
              refine wpAnyH_take (i := 12) (oi := { dst := some 189, op := Op.move (Operand.const (Value.int IntKind.i64 0)), type := 3, pos := "law.go:97", after := #[], guard := none }) (v := ?vh12) rfl (by kernel_rfl) (by kernel_rfl) (by kernel_rfl) (fun _ _ _ h => h) (Or.inl ⟨by rfl, ?hyh12⟩) hHeld ?_
              case hyh12 => (intro w hSw; (try dsimp only at hSw); go_simp; (try with_reducible rfl))
              try simp only [Act.put, List.setIfInBounds_toArray, List.set_cons_zero, List.set_cons_succ]
              refine wpAnyH_ready (rs := [10]) (by kernel_rfl) (by simp) ?_
              refine AllReadyH.cons (o := { dst := some 187, op := Op.buildSlice 24 2 #[(0, Operand.tmp 181), (1, Operand.tmp 186)], type := 24, pos := "law.go:97", after := #[{ on := 4, ground := Ground.data }, { on := 9, ground := Ground.data }], guard := none }) rfl (fun K hK => ?_) AllReadyH.nil
              go_simp
              have HZ4 := Lib.hid (HZ3.out.below (below_new wd (.cells #[.int .u64 (u1 : Int), .int .u64 (u2 : Int)] 26))).drew
              have HRr : Hid (RowAt (wd.alloc (.cells #[.int .u64 (u1 : Int), .int .u64 (u2 : Int)] 26)).drew wd.heap.size 26 2 (fun j => if j = 0 then (u1 : Int) else (u2 : Int))) := Lib.hid ⟨_, newBlock _ _, by simp, fun j hj => by rcases (by omega : j = 0 ∨ j = 1) with rfl | rfl <;> rfl⟩
              have qb := below_new wd (.cells #[.int .u64 (u1 : Int), .int .u64 (u2 : Int)] 26)
              have qz := HZ3.out.now.lt
              have q1' : (wd.alloc (.cells #[.int .u64 (u1 : Int), .int .u64 (u2 : Int)] 26)).drew.cell? ⟨Z, k - 2, none⟩ = some (.int .u64 (u1 : Int)) := (qb.cell (p := ⟨Z, k - 2, none⟩) qz).trans q1
              have q2' : (wd.alloc (.cells #[.int .u64 (u1 : Int), .int .u64 (u2 : Int)] 26)).drew.cell? ⟨Z, k - 1, none⟩ = some (.int .u64 (u2 : Int)) := (qb.cell (p := ⟨Z, k - 1, none⟩) qz).trans q2
              clear hHeld q1 q2 HZ3 HZq qb qz
              generalize (wd.alloc (.cells #[.int .u64 (u1 : Int), .int .u64 (u2 : Int)] 26)).drew = we at *
              generalize wd.heap.size = T2 at *
              refine hK.out _ _ ?_ (fun hHeld => ?_)
              · exact ⟨q1', q2'⟩
              clear hK K
              try simp only [Act.put, List.setIfInBounds_toArray, List.set_cons_zero, List.set_cons_succ]
              refine wpAnyH_take (i := 11) (oi := { dst := some 188, op := Op.call { callee := Callee.builtin Builtin.len, args := #[Operand.tmp 187], argTypes := #[24] }, type := 3, pos := "law.go:97", after := #[{ on := 10, ground := Ground.data }], guard := none }) (v := ?vh11) rfl (by kernel_rfl) (by kernel_rfl) (by kernel_rfl) (fun _ _ _ h => h) (Or.inl ⟨by rfl, ?hyh11⟩) hHeld ?_
              case hyh11 => (intro w hSw; (try dsimp only at hSw); go_simp; (try with_reducible rfl))
              try simp only [Act.put, List.setIfInBounds_toArray, List.set_cons_zero, List.set_cons_succ]
              refine wpAnyH_done (by kernel_rfl) ?_ _
              clear hHeld q1' q2'
              go_wp2_with fail
              clear hk2i hk1i hka hkb hkc hkd
              go_loopw [189] (fun jv wr => ∃ j : Nat, jv = .int .i64 j ∧ j ≤ 2 ∧ Hid (RnB w wr Z w.heap.size ⟨n, N, b, c, d⟩ (some ⟨bz, off, none⟩) f g) ∧ Hid (RowAt wr T2 26 2 (fun j => if j = 0 then (u1 : Int) else (u2 : Int)))) (fun jv _ => 2 - (intOf jv).toNat)
              case atStart => exact ⟨0, rfl, by omega, HZ4, HRr⟩
              case round =>
                clear HZ4 HRr
                obtain ⟨j, rfl, hj, HZ, HRr⟩ := hrel
                by_cases hj2 : j < 2
                · obtain ⟨u, hu, hu6, HTu⟩ : ∃ u : Nat, (if j = 0 then (u1 : Int) else (u2 : Int)) = (u : Int) ∧ u < 18446744073709551616 ∧ Hid (ToCol ⟨n, N, b, c, d⟩ g (u : Int)) := by
                    by_cases e : j = 0
                    · exact ⟨u1, by rw [if_pos e], hu16, HT1⟩
                    · exact ⟨u2, by rw [if_neg e], hu26, HT2⟩
                  have cj := HRr.out.cell hj2
                  rw [hu] at cj
                  have hj0 : (0 : Int) ≤ (j : Int) := by omega
                  have hjI : (j : Int) < 2 := by omega
                  have hj1 : IntKind.i64.wrap ((j : Int) + 1) = (j : Int) + 1 := IntWalk.i64_in _ (by omega)
                  have HIc : Hid (∀ W, Calls Tryd.prog 18 #[.int .u64 (u : Int)] W fun e w' => e = .returned (.int .i64 (cellR u)) ∧ W = w') := Lib.hid (fun W => refIsCell_c u hu6 W)
                  have HAt : Hid (∀ W, Calls Tryd.prog 19 #[.agg #[.int .i64 (N : Int), .int .i64 b, .int .i64 c, .int .i64 d], .agg #[.int .i64 6, .int .i64 (cellR u), .int .i64 0]] W fun e w' => e = .returned (.int .i64 (colP ⟨n, N, b, c, d⟩ (u : Int))) ∧ Below W.heap.size W w') := Lib.hid (fun W => by have := colP_at ⟨n, N, b, c, d⟩ u; dsimp only at this; rw [← this]; exact refAt_colour (N : Int) b c d (cellR u) HR.out W)
                  have hdn := HTu.out
                  unfold ToCol at hdn
                  have hsp := fun h => (colP_spot HK.out (w := (u : Int)) h).1
                  dsimp only at hsp
                  generalize colP ⟨n, N, b, c, d⟩ (u : Int) = at_ at *
                  generalize cellR u = ci at *
                  have HDn2 := Lib.hid hdn; have HSp := Lib.hid hsp
                  clear hdn hsp hu hu6 HTu
                  obtain ⟨x0, x1, x2, x3⟩ := HZ.out.box
                  dsimp only at x0 x1 x2 x3
                  go_wp2_with fail
                  refine (HIc.out _).mono ?_
                  rintro e V2 ⟨rfl, rfl⟩
                  clear HIc cj
                  go_wp2_with fail
                  refine (HAt.out _).mono ?_
                  rintro e V3 ⟨rfl, hb⟩
                  have HZ2 := Lib.hid (HZ.out.below hb); have HR2 := Lib.hid (HRr.out.below hb)
                  clear hb HZ HRr HAt x0 x1 x2 x3 hj0 hjI
                  by_cases hat : 0 ≤ at_
                  · obtain ⟨q2, rfl⟩ : ∃ q2 : Nat, at_ = (q2 : Int) := ⟨at_.toNat, by omega⟩
                    have hn2 := HSp.out hat
                    have hg := HDn2.out hat
                    rw [Int.toNat_natCast] at hg
                    have cq := HZ2.out.now.cell (j := q2) (by dsimp only; omega)
                    have hg0 : (g q2 == 0) = false := by simpa using hg
                    have hq2n : q2 < n := by omega
                    generalize g q2 = gq at *
                    clear hg HSp HDn2
                    go_wp2_with fail
                    go_roundw
                    case rel => exact ⟨j + 1, by go_num, by omega, HZ2, HR2⟩
                    case measure => simp [intOf]; omega
                  · have hd0 : decide (0 ≤ at_) = false := decide_eq_false hat
                    clear hat HSp HDn2
                    go_wp2_with fail
                    go_roundw
                    case rel => exact ⟨j + 1, by go_num, by omega, HZ2, HR2⟩
                    case measure => simp [intOf]; omega
                obtain rfl : 2 = j := by omega
                have HZ3 := HZ
                clear HZ HRr
                go_wp2_with fail
                go_roundw
                case rel => exact ⟨k + 1, by go_num, by omega, HZ3⟩
                case measure => simp [intOf]; omega
        obtain rfl : n = k := by omega
        go_wp2_with fail
        go_ret
        exact ⟨rfl, HZ.out.old⟩
    · by_cases h3 : x.l = 3
      · obtain ⟨s', x', L', hst, hq, hP1, hkM⟩ := HQ.out.go HK.out hl
        have hkM2 : k ≤ M := by rw [← HMM.out]; simpa using hkM
        have hcb : -1000000000000 ≤ x.c ∧ x.c ≤ 1000000000000 := by have := HC.out; omega
        have HST : Hid (∀ W, CkW W1 W H A G B ⟨n, N, b, c, d⟩ s x → _) := Lib.hid (fun W h => pass_c (w := W) h.hand HV.out.1 (HS1.out.below h.old) HR.out hn0 x HV.out.2 hcb)
        have HV2 := Lib.hid (passS_U HV.out.1 (C := ⟨n, N, b, c, d⟩) x HV.out.2)
        have HC2 := Lib.hid (passS_c (C := ⟨n, N, b, c, d⟩) (s := s) (x := x) HC.out.1 HC.out.2 (fun h4 h9 => by rcases HQ.out.lines with h | h; exact h.2.2.1 h4 h9; omega) (by dsimp only; omega))
        rw [hst] at HST HV2 HC2
        have hP2 : P + 1 ≤ N + 1 := by have := hP1 h3; simpa using this
        rw [if_pos h3] at hq
        have HQ2 := Lib.hid hq
        have hne : (x.l != 10) = true := by simpa using hl
        clear hst hq HV HQ hcb HC hP1 hkM hl
        obtain ⟨l, j, xc, m, xa, p, fd, tl, cy⟩ := x
        obtain ⟨l', j', xc', m', xa', p', fd', tl', cy'⟩ := x'
        dsimp only at h3 hne HST HV2 HC2
        obtain rfl : l = 3 := h3
        clear hne
        obtain ⟨b0, b1, b2, b3, b4, b5, b6, b7, b8, bf⟩ := HT.out.cells9
        obtain ⟨x0, x1, x2, x3⟩ := HX1.out.below HT.out.old
        have hk1 : IntKind.i64.wrap ((k : Int) + 1) = (k : Int) + 1 := IntWalk.i64_in _ (by omega)
        have hp1 : IntKind.i64.wrap ((P : Int) + 1) = (P : Int) + 1 := IntWalk.i64_in _ (by omega)
        go_wp2_with fail
        refine (HST.out _ HT.out).mono ?_
        rintro e V hp
        obtain ⟨rfl, hT⟩ := HT.out.step hp
        have HT2 := Lib.hid hT
        have hBl : B < V.heap.size := hT.col.lt
        have hBn : B ≠ V.heap.size := by omega
        clear hp hT HT HST b0 b1 b2 b3 b4 b5 b6 b7 b8 bf x0 x1 x2 x3 hp1
        obtain ⟨b0, b1, b2, b3, b4, b5, b6, b7, b8, bf⟩ := HT2.out.cells9
        obtain ⟨x0, x1, x2, x3⟩ := HX1.out.below HT2.out.old
        have hXl : w.heap.size < V.heap.size := lt_of_cell x0
        have hXn : w.heap.size ≠ V.heap.size := by omega
        have ha1 : IntKind.i64.wrap ((N : Int) + 1) = (N : Int) + 1 := IntWalk.i64_in _ (by omega)
        have ha6 : IntKind.i64.wrap (6 * (N : Int)) = 6 * (N : Int) := IntWalk.i64_in _ (by omega)
        have ha7 : IntKind.i64.wrap (6 * (N : Int) + 1) = 6 * (N : Int) + 1 := IntWalk.i64_in _ (by omega)
        have ha8 : IntKind.i64.wrap (((N : Int) + 1) * (6 * (N : Int) + 1)) = (M : Int) := by rw [hMi]; exact IntWalk.i64_in _ (by omega)
        have d1 : decide ((N : Int) + 1 < (P : Int) + 1) = false := decide_eq_false (by omega)
        have d2 : decide ((M : Int) < (k : Int)) = false := decide_eq_false (by omega)
        go_wp2_with fail
        have HT3 := Lib.hid ((HT2.out.put ⟨l', j', xc', m', xa', p', fd', tl', cy'⟩).below (below_new _ (.cells #[.int .i64 l', .int .i64 j', .int .i64 xc', .int .i64 m', .int .u64 xa', .int .u64 p', .bool fd', .int .i64 tl', .int .i64 cy'] 28)))
        go_roundw
        case rel => exact ⟨P + 1, k + 1, L', s', ⟨l', j', xc', m', xa', p', fd', tl', cy'⟩, by first | rfl | go_num, by go_num, by omega, by omega, HT3, HQ2, HV2, HC2⟩
        case measure => simp [intOf]; omega
      · obtain ⟨s', x', L', hst, hq, hP1, hkM⟩ := HQ.out.go HK.out hl
        have hkM2 : k ≤ M := by rw [← HMM.out]; simpa using hkM
        have hcb : -1000000000000 ≤ x.c ∧ x.c ≤ 1000000000000 := by have := HC.out; omega
        have HST : Hid (∀ W, CkW W1 W H A G B ⟨n, N, b, c, d⟩ s x → _) := Lib.hid (fun W h => pass_c (w := W) h.hand HV.out.1 (HS1.out.below h.old) HR.out hn0 x HV.out.2 hcb)
        have HV2 := Lib.hid (passS_U HV.out.1 (C := ⟨n, N, b, c, d⟩) x HV.out.2)
        have HC2 := Lib.hid (passS_c (C := ⟨n, N, b, c, d⟩) (s := s) (x := x) HC.out.1 HC.out.2 (fun h4 h9 => by rcases HQ.out.lines with h | h; exact h.2.2.1 h4 h9; omega) (by dsimp only; omega))
        rw [hst] at HST HV2 HC2
        rw [if_neg h3] at hq
        have HQ2 := Lib.hid hq
        have hne : (x.l != 10) = true := by simpa using hl
        have he3 : (x.l == 3) = false := by simpa using h3
        clear hst hq HV HQ hcb HC hP1 hkM hl
        obtain ⟨l, j, xc, m, xa, p, fd, tl, cy⟩ := x
        obtain ⟨l', j', xc', m', xa', p', fd', tl', cy'⟩ := x'
        dsimp only at h3 hne HST HV2 HC2 he3
        clear h3
        obtain ⟨b0, b1, b2, b3, b4, b5, b6, b7, b8, bf⟩ := HT.out.cells9
        obtain ⟨x0, x1, x2, x3⟩ := HX1.out.below HT.out.old
        have hk1 : IntKind.i64.wrap ((k : Int) + 1) = (k : Int) + 1 := IntWalk.i64_in _ (by omega)
        go_wp2_with fail
        refine (HST.out _ HT.out).mono ?_
        rintro e V hp
        obtain ⟨rfl, hT⟩ := HT.out.step hp
        have HT2 := Lib.hid hT
        have hBl : B < V.heap.size := hT.col.lt
        have hBn : B ≠ V.heap.size := by omega
        clear hp hT HT HST b0 b1 b2 b3 b4 b5 b6 b7 b8 bf x0 x1 x2 x3 hne he3
        obtain ⟨b0, b1, b2, b3, b4, b5, b6, b7, b8, bf⟩ := HT2.out.cells9
        obtain ⟨x0, x1, x2, x3⟩ := HX1.out.below HT2.out.old
        have hXl : w.heap.size < V.heap.size := lt_of_cell x0
        have hXn : w.heap.size ≠ V.heap.size := by omega
        have ha1 : IntKind.i64.wrap ((N : Int) + 1) = (N : Int) + 1 := IntWalk.i64_in _ (by omega)
        have ha6 : IntKind.i64.wrap (6 * (N : Int)) = 6 * (N : Int) := IntWalk.i64_in _ (by omega)
        have ha7 : IntKind.i64.wrap (6 * (N : Int) + 1) = 6 * (N : Int) + 1 := IntWalk.i64_in _ (by omega)
        have ha8 : IntKind.i64.wrap (((N : Int) + 1) * (6 * (N : Int) + 1)) = (M : Int) := by rw [hMi]; exact IntWalk.i64_in _ (by omega)
        have d1 : decide ((N : Int) + 1 < (P : Int)) = false := decide_eq_false (by omega)
        have d2 : decide ((M : Int) < (k : Int)) = false := decide_eq_false (by omega)
        go_wp2_with fail
        have HT3 := Lib.hid ((HT2.out.put ⟨l', j', xc', m', xa', p', fd', tl', cy'⟩).below (below_new _ (.cells #[.int .i64 l', .int .i64 j', .int .i64 xc', .int .i64 m', .int .u64 xa', .int .u64 p', .bool fd', .int .i64 tl', .int .i64 cy'] 28)))
        go_roundw
        case rel => exact ⟨P, k + 1, L', s', ⟨l', j', xc', m', xa', p', fd', tl', cy'⟩, by first | rfl | go_num, by go_num, by omega, by omega, HT3, HQ2, HV2, HC2⟩
        case measure => simp [intOf]; omega
end Go.Proofs.YtipkkmmehjdmpaaDoor
