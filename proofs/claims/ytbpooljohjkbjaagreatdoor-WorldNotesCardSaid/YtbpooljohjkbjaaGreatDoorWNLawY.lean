/- The law WorldNotes, where there is a world. -/
import Derived.Test.YtbpooljohjkbjaaGreatDoorM1
import Derived.Test.YtbpooljohjkbjaaGreatDoorM16
import Derived.Deep.Cut
namespace Go.Proofs.YtbpooljohjkbjaaGreatDoor
open Go Go.RowKit
set_option maxRecDepth 100000
attribute [local go_sem ↓] Go.wp_at_zero Go.wp_at_succ
set_option maxHeartbeats 25600000 in
theorem wn_yes (a c d : Int) (B : Nat) (hr : Right a (B : Int) c d) {w : World} (he : Env w) {va vk : Option Addr} {cp ck : Nat} {P : List (List Opn)} {K : List Int} (hP : PrsSl w (.slice va P.length cp) P) (hPB : ∀ L ∈ P, ∀ o ∈ L, o.B) (hPl : ∀ L ∈ P, L.length ≤ 4398046511104) (hn : (P.length : Int) ≤ (B : Int)) (hK : IntsSl w (.slice vk K.length ck) K) : Calls Tryz.prog 6 #[.agg #[.int .i64 a, .int .i64 (B : Int), .int .i64 c, .int .i64 d], .slice va P.length cp, .slice vk K.length ck] w fun e w' => e = .returned (.bool true) ∧ Below w.heap.size w w' := by
  have HX0 := Lib.hid (BoxAt.new w a (B : Int) c d 23)
  have HB0 := Lib.hid (below_new w (.cells #[.int .i64 a, .int .i64 (B : Int), .int .i64 c, .int .i64 d] 23))
  have HE0 := Lib.hid (he.below (below_new w (.cells #[.int .i64 a, .int .i64 (B : Int), .int .i64 c, .int .i64 d] 23)))
  have HAw := Lib.hid (fun W (h : Env W) => wawake_c h)
  have HP := Lib.hid hP; have HK := Lib.hid hK; have HPB := Lib.hid hPB; have HPl := Lib.hid hPl; have HRt := Lib.hid hr
  have HN : Hid (∀ W, Env W → Below w.heap.size w W → Calls Tryz.prog 10 #[.agg #[.int .i64 a, .int .i64 (B : Int), .int .i64 c, .int .i64 d], .slice va P.length cp] W fun e w' => ∃ (q : WoK) (nn : Nat), e = .returned (.tuple #[.pointer (some ⟨q.B, 0, none⟩), .int .i64 0]) ∧ (nn : Int) = 5 + B + d + B * c + 3 * a ∧ WoAt w' q ⟨nn, a, B, c, d⟩ (Ws0 a B c d P) ∧ Below W.heap.size W w' ∧ W.heap.size ≤ q.lo) := Lib.hid (fun W h hb => wnew_yes a c d B hr h (hP.below hb) hPl hn)
  have hB1 : B ≤ 63 := by have := hr.2.2.2.1; omega
  clear he hP hK hPB hPl hn hr
  go_enter Tryz.func6, Tryz.ntmps6
  go_wp2_with fail
  refine (HAw.out _ HE0.out).mono ?_
  rintro e V1 ⟨rfl, hb⟩
  have HX1 := Lib.hid (HX0.out.below hb)
  have HB1 := Lib.hid (belowOn HB0.out hb)
  have HE1 := Lib.hid (HE0.out.below hb)
  clear hb HX0 HB0 HE0 HAw
  obtain ⟨x0, x1, x2, x3⟩ := HX1.out
  go_wp2_with fail
  refine (HN.out _ HE1.out HB1.out).mono ?_
  rintro e V2 ⟨q, nn, rfl, hnn, hW, hb, hlo⟩
  have HX2 := Lib.hid (HX1.out.below hb)
  have HB2 := Lib.hid (belowOn HB1.out hb)
  have hlo2 : w.heap.size ≤ q.lo := Nat.le_trans HB1.out.size hlo
  have hXq : w.heap.size < q.lo := by have := lt_of_cell HX1.out.1; omega
  have HW := Lib.hid hW
  clear hb HX1 HB1 HE1 HN hW hlo hnn x0 x1 x2 x3
  obtain ⟨x0, x1, x2, x3⟩ := HX2.out
  have HG := Lib.hid (wgreat_c a (B : Int) c d (n := K.length) (a2 := vk) (cap2 := ck) (HP.out.below HB2.out))
  go_wp2_with fail
  refine HG.out.mono ?_
  rintro e V3 ⟨rb, rfl, hgr, hb⟩
  have HX3 := Lib.hid (HX2.out.below hb)
  have HB3 := Lib.hid (belowOn HB2.out hb)
  have HW3 := Lib.hid (HW.out.below hb)
  clear hb HX2 HB2 HG HW x0 x1 x2 x3
  obtain ⟨x0, x1, x2, x3⟩ := HX3.out
  cases rb
  · have hng : ¬ grt20 a (B : Int) c d P K.length := fun e => by have := hgr.2 e; cases this
    clear hgr
    unfold grt20 at hng
    have hK1 : K.length ≤ 1000 := by omega
    have hP5 : P.length ≤ 5 := by omega
    clear hng
    obtain ⟨C, hC⟩ : ∃ C : Cf, (⟨nn, a, (B : Int), c, d⟩ : Cf) = C := ⟨_, rfl⟩
    have HCb : Hid (C.b = (B : Int)) := Lib.hid (by rw [← hC])
    have HRun := Lib.hid (wrun_c HW3.out (ws0_B HRt.out HPB.out) (Int.le_refl 0) (P := K) (by omega) (a := vk) (cap := ck) (HK.out.below HB3.out) (fun h0 b off e => .inl (by subst e; obtain ⟨a', cap', e', h⟩ := HK.out; cases e'; obtain ⟨b', off', e', h⟩ := h.resolve_left (by omega); cases e'; have := lt_of_cell (h 0 h0); omega)))
    obtain ⟨σe, hce, hwe⟩ := run_chk (C := ⟨nn, a, (B : Int), c, d⟩) K (wi_first (a := a) (b := (B : Int)) (c := c) (d := d) P)
    have HWI := Lib.hid (fun (m : Nat) (hm : (m : Int) < (B : Int)) => hwe.busy (m := m) hm)
    have HCh := Lib.hid hce
    have hLn := run_len ⟨nn, a, (B : Int), c, d⟩ K (Ws0 a (B : Int) c d P)
    clear hce hwe
    rw [hC] at HW3 HRun HWI HCh hLn
    rw [HCb.out] at HCh
    generalize (runS C (Ws0 a (B : Int) c d P) K).1 = S at *
    generalize (runS C (Ws0 a (B : Int) c d P) K).2 = L at *
    go_wp2_with fail
    refine HRun.out.mono ?_
    rintro e V4 ⟨nv, rfl, hR⟩
    have HB4 := Lib.hid (hR.old HB3.out hlo2)
    have hbx : V4.heap[w.heap.size]? = V3.heap[w.heap.size]? := hR.sav.block _ (lt_of_cell HX3.out.1) (fun e => e.elim (fun e => by have := e.1; omega) (fun e => by have := lt_of_cell HX3.out.1; omega))
    have HX4 := Lib.hid (box_other HX3.out hbx)
    have hRow := hR.row
    have hnt := hR.row.nts
    have HW4 := Lib.hid hR.wo
    have hhi := hR.hi
    have hz3 := hR.sav.size
    clear hR HX3 HRun hbx HW3 HB3 x0 x1 x2 x3
    obtain ⟨an, cn, rfl, hnc⟩ := hnt.1
    have hown := hnt.2
    clear hnt hRow
    obtain ⟨x0, x1, x2, x3⟩ := HX4.out
    have hmk := wmk_ints B (by omega)
    have HI1 := Lib.hid (iv_made V4 B)
    have hb1 := below_new V4 (.cells (madeCells #[.int .i64 0] B) 3)
    go_upto_region 8 with fail
    have HX5 := Lib.hid (HX4.out.below hb1)
    have HB5 := Lib.hid (belowOn HB4.out hb1)
    have HW5 := Lib.hid (HW4.out.below hb1)
    have hsz : V4.heap.size < (V4.alloc (.cells (madeCells #[.int .i64 0] B) 3)).heap.size := by simp
    obtain ⟨nb, no, hnbl, hnba, hNt⟩ : ∃ nb no, nb < V4.heap.size ∧ (0 < L.length → an = some ⟨nb, no, none⟩) ∧ ∀ k, (hk : k < L.length) → NtAt V4 nb (no + k * 7) L[k] := by
      rcases hnc with h0 | ⟨nb, no, rfl, h⟩
      · exact ⟨0, 0, by have := lt_of_cell HX4.out.1; omega, fun h => by omega, fun k hk => by omega⟩
      · by_cases h0 : 0 < L.length
        · exact ⟨nb, no, lt_of_cell (h 0 h0).1, fun _ => rfl, h⟩
        · exact ⟨0, 0, by have := lt_of_cell HX4.out.1; omega, fun h => by omega, fun k hk => by omega⟩
    have HNt5 := Lib.hid (fun k hk => (hNt k hk).other (hb1.block _ (lt_of_cell (hNt k hk).1)))
    clear HX4 HB4 HW4 hNt hnc x0 x1 x2 x3 hb1
    generalize V4.alloc (.cells (madeCells #[.int .i64 0] B) 3) = V5 at *
    generalize hR1 : V4.heap.size = R1 at *
    obtain ⟨x0, x1, x2, x3⟩ := HX5.out
    have HI2 := Lib.hid (iv_made V5 B)
    have hb2 := below_new V5 (.cells (madeCells #[.int .i64 0] B) 3)
    go_upto_region 9 with fail
    have hh := HW5.out.hi; have hqhi : q.hi ≤ R1 := by omega
    have hXR : w.heap.size < R1 := by have := HW5.out.ne.h.1; have := HW5.out.ne.h.2; omega
    have HT0' : nb ≠ R1 → nb ≠ V5.heap.size → NoW w (V5.alloc (.cells (madeCells #[.int .i64 0] B) 3)) q C S a (B : Int) c d nb no L R1 V5.heap.size B (fun _ => 0) (fun _ => 0) := fun e1 e2 => ⟨HW5.out.below hb2, belowOn HB5.out hb2, HX5.out.below hb2, fun k hk => (HNt5.out k hk).other (hb2.block _ (lt_of_cell (HNt5.out k hk).1)), HI1.out.other (hb2.block _ HI1.out.lt), HI2.out, ⟨hqhi, hh⟩, ⟨by omega, e1.symm, e2.symm, by omega, by omega⟩, hlo2⟩
    have HT0 := Lib.hid (HT0' (by omega) (by omega))
    clear HT0' HX5 HB5 HW5 HNt5 HI1 HI2 hb2 hmk hown hh x0 x1 x2 x3
    generalize V5.alloc (.cells (madeCells #[.int .i64 0] B) 3) = V6 at *
    generalize V5.heap.size = R2 at *
    go_upto_region 10 with fail
    go_loopw [12] (fun iv wr => ∃ (k : Nat) (σ : Sg), iv = .int .i64 k ∧ k ≤ L.length ∧ Hid (NoW w wr q C S a (B : Int) c d nb no L R1 R2 B σ.1 σ.2) ∧ Hid (chks (B : Int) (fun i => (P[i]?).getD []) σ (L.drop k) = some σe)) (fun iv _ => L.length - (intOf iv).toNat)
    case atStart => exact ⟨0, (fun _ => 0, fun _ => 0), rfl, by omega, HT0, HCh⟩
    case round =>
      clear HT0
      obtain ⟨k, σ, rfl, hk, HT, HC⟩ := hrel
      by_cases hkl : k < L.length
      · have hk0 : (0 : Int) ≤ (k : Int) := by omega
        have hkI : (k : Int) < (L.length : Int) := by omega
        have dk : decide ((k : Int) < (L.length : Int)) = true := decide_eq_true hkI
        have hk1 : IntKind.i64.wrap ((k : Int) + 1) = (k : Int) + 1 := IntWalk.i64_in _ (by omega)
        have hd : L.drop k = L[k] :: L.drop (k + 1) := List.drop_eq_getElem_cons hkl
        obtain ⟨σ1, hσ1, hσ2⟩ : ∃ σ1, chk (B : Int) (fun i => (P[i]?).getD []) σ L[k] = some σ1 ∧ chks (B : Int) (fun i => (P[i]?).getD []) σ1 (L.drop (k + 1)) = some σe := by
          have h := HC.out
          rw [hd] at h
          unfold chks at h
          cases e : chk (B : Int) (fun i => (P[i]?).getD []) σ L[k] with
          | none => rw [e] at h; cases h
          | some σ1 => rw [e] at h; exact ⟨σ1, rfl, h⟩
        have HC2 := Lib.hid hσ2
        have HN := Lib.hid (HT.out.nts k hkl)
        have hcs := chk_cases hσ1
        have hane := hnba (by omega)
        subst hane
        clear hσ1 hσ2 hd HC
        obtain ⟨⟨xp, wh, xk, xx, xy, xz, xn⟩, hx⟩ : ∃ x, L[k] = x := ⟨_, rfl⟩
        rw [hx] at HN hcs
        clear hx
        obtain ⟨n0, n1, n2, n3, n4, n5, n6⟩ := HN.out
        dsimp only at n0 n1 n2 n3 n4 n5 n6 hcs
        clear HN
        obtain ⟨x0, x1, x2, x3⟩ := HT.out.box
        rcases hcs with ⟨rfl, h4, rfl⟩ | ⟨m, rfl, hmB, hne, hw4, hop, hw⟩
        · have g0 : decide ((B : Int) < 0) = false := decide_eq_false (by omega)
          have g1 : decide ((B : Int) < (B : Int)) = false := decide_eq_false (by omega)
          have g4 : decide ((4 : Int) ≤ wh) = true := decide_eq_true h4
          have HT1 := Lib.hid (HT.out.below (below_new wr (.cells #[.int .i64 (B : Int), .int .i64 wh, .int .i64 xk, .int .i64 xx, .int .i64 xy, .int .i64 xz, .int .i64 xn] 68)))
          have HXn := Lib.hid (nt_new wr ⟨(B : Int), wh, xk, xx, xy, xz, xn⟩)
          clear HT
          go_upto_region 13 with fail
          clear n0 n1 n2 n3 n4 n5 n6 x0 x1 x2 x3
          generalize wr.alloc (.cells #[.int .i64 (B : Int), .int .i64 wh, .int .i64 xk, .int .i64 xx, .int .i64 xy, .int .i64 xz, .int .i64 xn] 68) = W1 at *
          generalize wr.heap.size = X at *
          obtain ⟨n0, n1, n2, n3, n4, n5, n6⟩ := HXn.out
          obtain ⟨x0, x1, x2, x3⟩ := HT1.out.box
          dsimp only at n0 n1 n2 n3 n4 n5 n6
          clear HXn h4
          go_wp2_with fail
          go_roundw
          case rel => exact ⟨k + 1, _, by first | rfl | go_num, by omega, HT1, HC2⟩
          case measure => simp [intOf]; omega
        · have g0 : decide ((m : Int) < 0) = false := decide_eq_false (by omega)
          have g1 : decide ((B : Int) < (m : Int)) = false := decide_eq_false (by omega)
          have g2 : ((m : Int) == (B : Int)) = false := by simpa using hne
          have g4 : decide ((4 : Int) ≤ wh) = false := decide_eq_false hw4
          have hm0 : (0 : Int) ≤ (m : Int) := by omega
          have hmn : m < B := by omega
          have hmP : m < P.length := by
            rcases Nat.lt_or_ge m P.length with h | h
            · exact h
            · rw [List.getElem?_eq_none h] at hop; simp at hop
          rw [List.getElem?_eq_getElem hmP] at hop
          simp only [Option.getD_some] at hop
          obtain ⟨hal, hao⟩ := List.getElem?_eq_some_iff.1 hop
          have g5 : decide (P.length ≤ m) = false := decide_eq_false (by omega)
          have hmPI : (m : Int) < (P.length : Int) := by omega
          obtain ⟨b0, off, rfl, hc⟩ : ∃ b0 off, va = some ⟨b0, off, none⟩ ∧ ∃ u, w.cell? ⟨b0, off + m, none⟩ = some u ∧ OpsSl w u P[m] := by
            obtain ⟨a', cap', e', hc⟩ := HP.out
            cases e'
            obtain ⟨b0, off, rfl, hc'⟩ := hc.resolve_left (by omega)
            exact ⟨b0, off, rfl, hc' m hmP⟩
          obtain ⟨u, hu, hs⟩ := hc
          obtain ⟨a3, cap3, rfl, hs⟩ := hs
          obtain ⟨b3, o3, rfl, hs9⟩ := hs.resolve_left (by omega)
          have hs1 := hs9 (σ.1 m) hal
          clear hs9
          rw [hao] at hs1
          obtain ⟨l3, hl3⟩ : ∃ l3, (P[m]).length = l3 := ⟨_, rfl⟩
          obtain ⟨at1, hat1⟩ : ∃ at1, σ.1 m = at1 := ⟨_, rfl⟩
          rw [hl3] at hu hal
          rw [hat1] at hs1 hal
          have g6 : decide (l3 ≤ at1) = false := decide_eq_false (by omega)
          have hl3b := HPl.out _ (List.getElem_mem hmP)
          rw [hl3] at hl3b
          have hatI : (at1 : Int) < (l3 : Int) := by omega
          have hat0 : (0 : Int) ≤ (at1 : Int) := by omega
          have hatw : IntKind.i64.wrap ((at1 : Int) + 1) = ((at1 + 1 : Nat) : Int) := by rw [IntWalk.i64_in _ (by omega)]; omega
          have hmBI : (m : Int) < (B : Int) := hmB
          have HT1 := Lib.hid (HT.out.below (below_new wr (.cells #[.int .i64 (m : Int), .int .i64 wh, .int .i64 xk, .int .i64 xx, .int .i64 xy, .int .i64 xz, .int .i64 xn] 68)))
          have HXn := Lib.hid (nt_new wr ⟨(m : Int), wh, xk, xx, xy, xz, xn⟩)
          have hXn1 : wr.heap.size ≠ R1 := by have := HT.out.r1.lt; omega
          have hXn2 : wr.heap.size ≠ R2 := by have := HT.out.r2.lt; omega
          have hXw : wr.heap.size ≠ w.heap.size := by have := lt_of_cell HT.out.box.1; omega
          clear HT hne hw4 hs hao hop
          go_upto_region 13 with fail
          clear n0 n1 n2 n3 n4 n5 n6 x0 x1 x2 x3
          generalize wr.alloc (.cells #[.int .i64 (m : Int), .int .i64 wh, .int .i64 xk, .int .i64 xx, .int .i64 xy, .int .i64 xz, .int .i64 xn] 68) = W1 at *
          generalize wr.heap.size = X at *
          obtain ⟨n0, n1, n2, n3, n4, n5, n6⟩ := HXn.out
          obtain ⟨x0, x1, x2, x3⟩ := HT1.out.box
          dsimp only at n0 n1 n2 n3 n4 n5 n6
          go_upto_region 17 with fail
          obtain ⟨p0, p1, p2, p3⟩ := hs1.other (HT1.out.drew.old.block b3 hs1.lt)
          have cu : W1.drew.cell? ⟨b0, off + m, none⟩ = some (.slice (some ⟨b3, o3, none⟩) l3 cap3) := (World.cell?_of_block (a := ⟨b0, off + m, none⟩) (HT1.out.drew.old.block b0 (lt_of_cell hu))).trans hu
          have ca := HT1.out.drew.r1.cell hmn
          rw [hat1] at ca
          have HXd := HXn.out.other (V := W1.drew) rfl
          obtain ⟨y0, y1, y2, y3, y4, y5, y6⟩ := HXd
          dsimp only at y0 y1 y2 y3 y4 y5 y6 p0 p1 p2 p3
          go_region_held3 (fun w' => w'.cell? ⟨b0, off + m, none⟩ = some (.slice (some ⟨b3, o3, none⟩) l3 cap3) ∧ w'.cell? ⟨R1, m, none⟩ = some (.int .i64 (at1 : Int)) ∧ w'.cell? ⟨X, 2, none⟩ = some (.int .i64 xk) ∧ w'.cell? ⟨X, 3, none⟩ = some (.int .i64 xx) ∧ w'.cell? ⟨X, 4, none⟩ = some (.int .i64 xy) ∧ w'.cell? ⟨X, 5, none⟩ = some (.int .i64 xz) ∧ w'.cell? ⟨b3, o3 + at1 * 4, none⟩ = some (.int .i64 xk) ∧ w'.cell? ⟨b3, o3 + at1 * 4 + 1, none⟩ = some (.int .i64 xx) ∧ w'.cell? ⟨b3, o3 + at1 * 4 + 2, none⟩ = some (.int .i64 xy) ∧ w'.cell? ⟨b3, o3 + at1 * 4 + 3, none⟩ = some (.int .i64 xz)) (exact ⟨cu, ca, y2, y3, y4, y5, p0, p1, p2, p3⟩)
            (fail)
          clear p0 p1 p2 p3 cu y0 y1 y2 y3 y4 y5 y6 n0 n1 n2 n3 n4 n5 n6 x0 x1 x2 x3 ca
          have HT2 := Lib.hid HT1.out.drew
          have HXd := Lib.hid (HXn.out.other (V := W1.drew) rfl)
          clear HT1 HXn hs1
          generalize W1.drew = W2 at *
          obtain ⟨n0, n1, n2, n3, n4, n5, n6⟩ := HXd.out
          have cs := HT2.out.r2.cell hmn
          have ca := HT2.out.r1.cell hmn
          rw [hat1] at ca
          have f1 := HT2.out.r1.frozen; have f2 := HT2.out.r2.frozen
          have ne1 := HT2.out.ne.1; have ne2 := HT2.out.ne.1.symm
          dsimp only at n0 n1 n2 n3 n4 n5 n6
          clear HXd
          rcases hw with ⟨rfl, hs2, rfl⟩ | ⟨rfl, hs2, rfl⟩ | ⟨rfl, hs2, hn1, hn5, rfl⟩ | ⟨rfl, hs2, rfl, rfl⟩
          · rw [hs2] at cs
            have HT3 := Lib.hid (HT2.out.set2 m 1)
            clear HT2
            go_wp2_with fail
            go_roundw
            case rel => exact ⟨k + 1, _, by first | rfl | go_num, by omega, HT3, HC2⟩
            case measure => simp [intOf]; omega
          · rw [hs2] at cs
            have HT3 := Lib.hid (HT2.out.set2 m 2)
            clear HT2
            go_wp2_with fail
            go_roundw
            case rel => exact ⟨k + 1, _, by first | rfl | go_num, by omega, HT3, HC2⟩
            case measure => simp [intOf]; omega
          · have gn1 : decide ((1 : Int) ≤ xn) = true := decide_eq_true hn1
            have gn5 : decide (xn ≤ (5 : Int)) = true := decide_eq_true hn5
            rw [hs2] at cs
            have HT3 := Lib.hid ((HT2.out.set2 m 0).set1 m (at1 + 1))
            rw [← hat1] at HT3
            clear HT2
            go_wp2_with fail
            go_roundw
            case rel => exact ⟨k + 1, _, by first | rfl | go_num, by omega, by rw [hat1] at HT3 ⊢; exact HT3, HC2⟩
            case measure => simp [intOf]; omega
          · rw [hs2] at cs
            have HT3 := Lib.hid ((HT2.out.set2 m 0).set1 m (at1 + 1))
            rw [← hat1] at HT3
            clear HT2
            go_wp2_with fail
            go_roundw
            case rel => exact ⟨k + 1, _, by first | rfl | go_num, by omega, by rw [hat1] at HT3 ⊢; exact HT3, HC2⟩
            case measure => simp [intOf]; omega
      · obtain rfl : k = L.length := by omega
        have dk : decide ((L.length : Int) < (L.length : Int)) = false := decide_eq_false (by omega)
        have hσe : σ = σe := by have h := HC.out; rw [List.drop_length] at h; exact Option.some.inj h
        subst hσe
        clear HC hk hkl
        obtain ⟨x0, x1, x2, x3⟩ := HT.out.box
        go_upto_region 28 with fail
        clear x0 x1 x2 x3
        generalize wr = W9 at *
        go_loopw [15] (fun iv wr => ∃ m : Nat, iv = .int .i64 m ∧ m ≤ B ∧ Hid (NoW w wr q C S a (B : Int) c d nb no L R1 R2 B σ.1 σ.2)) (fun iv _ => B - (intOf iv).toNat)
        case atStart => exact ⟨0, rfl, by omega, HT⟩
        case round =>
          clear HT
          obtain ⟨m, rfl, hm, HT⟩ := hrel
          obtain ⟨x0, x1, x2, x3⟩ := HT.out.box
          by_cases hmB : m < B
          · have dm : decide ((m : Int) < (B : Int)) = true := decide_eq_true (by omega)
            have hm0 : (0 : Int) ≤ (m : Int) := by omega
            have hmI : (m : Int) < (B : Int) := by omega
            have hm1 : IntKind.i64.wrap ((m : Int) + 1) = (m : Int) + 1 := IntWalk.i64_in _ (by omega)
            have HBz := Lib.hid (wBusy_yes HT.out.drew.wo (m := m) (by rw [HCb.out]; omega))
            have hbe : (!((S.mu m).l == 0)) = (!((σ.2 m : Int) == 0)) := by
              have h := HWI.out m (by omega)
              by_cases e : (S.mu m).l = 0
              · have e2 := h.1 e; rw [e, e2]; rfl
              · have e2 : ¬ σ.2 m = 0 := fun e2 => e (h.2 e2)
                have e3 : ¬ ((σ.2 m : Nat) : Int) = 0 := by omega
                rw [show ((S.mu m).l == 0) = false by simpa using e, show (((σ.2 m : Nat) : Int) == 0) = false by simpa using e3]
            rw [hbe] at HBz
            clear hbe
            have cs := HT.out.drew.r2.cell hmB
            generalize ((σ.2 m : Nat) : Int) = z at cs HBz
            go_upto_region 30 with fail
            clear x0 x1 x2 x3
            by_cases hz : z = 0
            · subst hz
              rw [show (!((0 : Int) == 0)) = false from rfl] at HBz
              refine wp_region_held_drew (S := (fun w' => w'.cell? ⟨R2, m, none⟩ = some (.int .i64 (0 : Int)))) (by kernel_rfl) ?_ (fun hHeld => ?_)
              · exact cs
              refine tk 0 rfl hHeld ?_
              refine tk 1 rfl hHeld ?_
              refine tk 3 rfl hHeld ?_
              refine tk 4 rfl hHeld ?_
              refine tk 5 rfl hHeld ?_
              refine tk 6 rfl hHeld ?_
              refine tk 7 rfl hHeld ?_
              refine wpAnyH_ready (rs := [2]) (by kernel_rfl) (by simp) ?_
              refine AllReadyH.cons (o := _) rfl (fun K hK => ?_) AllReadyH.nil
              go_simp
              refine HBz.out.mono ?_
              rintro e V ⟨rfl, rfl⟩
              clear HBz
              refine hK.out _ _ ?_ (fun hHeld => ?_)
              · exact cs
              clear hK K
              try simp only [Act.put, List.setIfInBounds_toArray, List.set_cons_zero, List.set_cons_succ]
              refine tk 8 rfl hHeld ?_
              refine wpAnyH_done (by kernel_rfl) ?_ _
              clear hHeld
              have HT2 := Lib.hid HT.out.drew
              clear HT cs
              generalize wr.drew = W2 at *
              go_wp2_with fail
              go_roundw
              case rel => exact ⟨m + 1, by first | rfl | go_num, by omega, HT2⟩
              case measure => simp [intOf]; omega
            · have gz : (z == 0) = false := by simpa using hz
              rw [gz] at HBz
              rw [show (!false) = true from rfl] at HBz
              have gz2 : (z != 0) = true := by simpa using hz
              refine wp_region_held_drew (S := (fun w' => w'.cell? ⟨R2, m, none⟩ = some (.int .i64 (z : Int)))) (by kernel_rfl) ?_ (fun hHeld => ?_)
              · exact cs
              refine tk 0 rfl hHeld ?_
              refine tk 1 rfl hHeld ?_
              refine tk 3 rfl hHeld ?_
              refine tk 4 rfl hHeld ?_
              refine tk 5 rfl hHeld ?_
              refine tk 6 rfl hHeld ?_
              refine tk 7 rfl hHeld ?_
              refine wpAnyH_ready (rs := [2]) (by kernel_rfl) (by simp) ?_
              refine AllReadyH.cons (o := _) rfl (fun K hK => ?_) AllReadyH.nil
              go_simp
              refine HBz.out.mono ?_
              rintro e V ⟨rfl, rfl⟩
              clear HBz
              refine hK.out _ _ ?_ (fun hHeld => ?_)
              · exact cs
              clear hK K
              try simp only [Act.put, List.setIfInBounds_toArray, List.set_cons_zero, List.set_cons_succ]
              refine tk 8 rfl hHeld ?_
              refine wpAnyH_done (by kernel_rfl) ?_ _
              clear hHeld
              have HT2 := Lib.hid HT.out.drew
              clear HT cs
              generalize wr.drew = W2 at *
              go_wp2_with fail
              go_roundw
              case rel => exact ⟨m + 1, by first | rfl | go_num, by omega, HT2⟩
              case measure => simp [intOf]; omega
          · obtain rfl : m = B := by omega
            have dm : decide ((m : Int) < (m : Int)) = false := decide_eq_false (by omega)
            go_wp2_with fail
            go_ret
            exact ⟨rfl, HT.out.old⟩
  · clear hgr
    go_wp2_with fail
    go_ret
    exact ⟨rfl, HB3.out⟩
end Go.Proofs.YtbpooljohjkbjaaGreatDoor
