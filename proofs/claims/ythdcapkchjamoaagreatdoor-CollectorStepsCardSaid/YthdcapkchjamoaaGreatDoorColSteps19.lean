/- CollectorSteps answers true: a step from any line, over any words, is as the document says; so is whether it marks, and how far it has swept. -/
import Derived.Test.YthdcapkchjamoaaGreatDoorM13
import Derived.Test.YthdcapkchjamoaaGreatDoorTwo
import Derived.Deep.RegionHeld3
namespace Go.Proofs.YthdcapkchjamoaaGreatDoor
open Go Go.RowKit
set_option maxRecDepth 100000
attribute [local go_sem ↓] Go.wp_at_zero Go.wp_at_succ

theorem colS_load (C : Cf) (s : Dy) (x : Co) : colS C (s.act C 1 0 0 0) x = colS C s x := by
  have e : (s.act C 1 0 0 0).clr = s.clr := by
    unfold Dy.act Dy.clr
    rw [words_load]
  rw [← colS_clr, e, colS_clr]
set_option maxHeartbeats 12800000 in
theorem csteps_any (a b c d : Int) (v0 : Option Addr) (n c0 : Nat) (f : Nat → Int) (x : Co) (hm : x.U) (w : World) (hS : SpansAt w) (hG : Given w v0 n c0 f) :
    Calls Tryz.prog 3 #[.agg #[.int .i64 a, .int .i64 b, .int .i64 c, .int .i64 d], .slice v0 n c0, x.v] w fun e w' => e = .returned (.bool true) ∧ Below w.heap.size w w' := by
  obtain ⟨l, j, xc, m, xa, p, fd, tl, cy⟩ := x
  have HB0 := Lib.hid (below_on (below_new w (.cells #[.int .i64 a, .int .i64 b, .int .i64 c, .int .i64 d] 23)) (.cells #[.int .i64 l, .int .i64 j, .int .i64 xc, .int .i64 m, .int .u64 xa, .int .u64 p, .bool fd, .int .i64 tl, .int .i64 cy] 28))
  have HX0 : Hid (BoxAt ((w.alloc (.cells #[.int .i64 a, .int .i64 b, .int .i64 c, .int .i64 d] 23)).alloc (.cells #[.int .i64 l, .int .i64 j, .int .i64 xc, .int .i64 m, .int .u64 xa, .int .u64 p, .bool fd, .int .i64 tl, .int .i64 cy] 28)) w.heap.size a b c d) := Lib.hid ((BoxAt.new w a b c d 23).below (below_new _ _))
  have HM0 : Hid (Col9 ((w.alloc (.cells #[.int .i64 a, .int .i64 b, .int .i64 c, .int .i64 d] 23)).alloc (.cells #[.int .i64 l, .int .i64 j, .int .i64 xc, .int .i64 m, .int .u64 xa, .int .u64 p, .bool fd, .int .i64 tl, .int .i64 cy] 28)) (w.heap.size + 1) l j xc m xa p fd tl cy) := Lib.hid (by have := Col9.new (w.alloc (.cells #[.int .i64 a, .int .i64 b, .int .i64 c, .int .i64 d] 23)) l j xc m xa p fd tl cy; simpa using this)
  have HS := Lib.hid hS; have HG := Lib.hid hG
  have HU := Lib.hid hm
  clear hS hG hm
  obtain ⟨x0, x1, x2, x3⟩ := HX0.out
  go_enter Tryz.func3, Tryz.ntmps3
  go_wp2_with fail
  refine (awake19_c _ (HS.out.below HB0.out)).mono ?_
  rintro e W1 ⟨rfl, hW⟩
  have HB1 := Lib.hid (belowOn HB0.out hW)
  have HX1 := Lib.hid (HX0.out.below hW)
  have HM1 : Hid (Col9 W1 (w.heap.size + 1) l j xc m xa p fd tl cy) := Lib.hid (HM0.out.below hW)
  clear hW HB0 HX0 HM0 x0 x1 x2 x3
  by_cases h20 : 20 ≤ l
  · by_cases h24 : l ≤ 24
    · have d20 : decide (20 ≤ l) = true := decide_eq_true h20
      have d24 : decide (l ≤ 24) = true := decide_eq_true h24
      have d14 : (l == 14) = false := by simp; omega
      have hsw : sweptN l xc = xc := by unfold sweptN; rw [if_pos ⟨h20, h24⟩]
      have HMk : Hid (∀ W, Calls Tryz.prog 5 #[(colV l j xc m xa p fd tl cy)] W fun e w' => e = .returned (.bool (marksL l)) ∧ Below W.heap.size W w') := Lib.hid (fun W => Marks_c l j xc m xa p fd tl cy W)
      have HMr : Hid (∀ W, Calls Tryz.prog 6 #[(colV l j xc m xa p fd tl cy)] W fun e w' => e = .returned (.bool (marksL l)) ∧ Below W.heap.size W w') := Lib.hid (fun W => rMarks_c l j xc m xa p fd tl cy W)
      have HSw : Hid (∀ W, Calls Tryz.prog 7 #[(colV l j xc m xa p fd tl cy)] W fun e w' => e = .returned (.int .i64 (sweptN l xc)) ∧ Below W.heap.size W w') := Lib.hid (fun W => Swept_c l j xc m xa p fd tl cy W)
      rw [hsw] at HSw
      generalize marksL l = mk at *
      have hmk : (mk != mk) = false := by simp
      clear hsw h20 h24
      obtain ⟨a0, a1, a2, a3, a4, a5, a6, a7, a8, af⟩ := HM1.out.cells
      go_wp2_with fail
      have HB := Lib.hid HB1.out.drew; have HX : Hid (BoxAt W1.drew w.heap.size a b c d) := Lib.hid HX1.out; have HM := Lib.hid (HM1.out.other (w' := W1.drew) rfl)
      clear HB1 HX1 HM1 a0 a1 a2 a3 a4 a5 a6 a7 a8 af
      obtain ⟨a0, a1, a2, a3, a4, a5, a6, a7, a8, af⟩ := HM.out.cells
      go_region_held3 ((fun w' => w'.cell? ⟨w.heap.size + 1, 0, none⟩ = some (.int .i64 l) ∧ w'.cell? ⟨w.heap.size + 1, 1, none⟩ = some (.int .i64 j) ∧ w'.cell? ⟨w.heap.size + 1, 2, none⟩ = some (.int .i64 xc) ∧ w'.cell? ⟨w.heap.size + 1, 3, none⟩ = some (.int .i64 m) ∧ w'.cell? ⟨w.heap.size + 1, 4, none⟩ = some (.int .u64 xa) ∧ w'.cell? ⟨w.heap.size + 1, 5, none⟩ = some (.int .u64 p) ∧ w'.cell? ⟨w.heap.size + 1, 6, none⟩ = some (.bool fd) ∧ w'.cell? ⟨w.heap.size + 1, 7, none⟩ = some (.int .i64 tl) ∧ w'.cell? ⟨w.heap.size + 1, 8, none⟩ = some (.int .i64 cy))) (exact ⟨a0, a1, a2, a3, a4, a5, a6, a7, a8⟩)
        (first
          | (go_at_call 5
             refine (HMk.out _).mono ?_
             rintro e V ⟨rfl, hb⟩
             have HB' := Lib.hid (belowOn HB.out hb); have HX' := Lib.hid (HX.out.below hb); have HM' := Lib.hid (HM.out.below hb)
             clear hb HB HX HM HMk a0 a1 a2 a3 a4 a5 a6 a7 a8 af
             have HB := HB'; have HX := HX'; have HM := HM'
             clear HB' HX' HM'
             obtain ⟨a0, a1, a2, a3, a4, a5, a6, a7, a8, af⟩ := HM.out.cells)
          | (go_at_call 6
             refine (HMr.out _).mono ?_
             rintro e V ⟨rfl, hb⟩
             have HB' := Lib.hid (belowOn HB.out hb); have HX' := Lib.hid (HX.out.below hb); have HM' := Lib.hid (HM.out.below hb)
             clear hb HB HX HM HMr a0 a1 a2 a3 a4 a5 a6 a7 a8 af
             have HB := HB'; have HX := HX'; have HM := HM'
             clear HB' HX' HM'
             obtain ⟨a0, a1, a2, a3, a4, a5, a6, a7, a8, af⟩ := HM.out.cells)
          | (go_at_call 7
             refine (HSw.out _).mono ?_
             rintro e V ⟨rfl, hb⟩
             have HB' := Lib.hid (belowOn HB.out hb); have HX' := Lib.hid (HX.out.below hb); have HM' := Lib.hid (HM.out.below hb)
             clear hb HB HX HM HSw a0 a1 a2 a3 a4 a5 a6 a7 a8 af
             have HB := HB'; have HX := HX'; have HM := HM'
             clear HB' HX' HM'
             obtain ⟨a0, a1, a2, a3, a4, a5, a6, a7, a8, af⟩ := HM.out.cells))
      all_goals
        clear hmk d20 d24 d14 a0 a1 a2 a3 a4 a5 a6 a7 a8 af
        have hlt : w.heap.size + 1 < V.heap.size := HM.out.lt
        obtain ⟨x0, x1, x2, x3⟩ := HX.out
        go_wp2_with fail
        refine (Both_any a b c d v0 n c0 f _ (HS.out.below HB.out) ⟨HG.out.1, HG.out.2.1.below HB.out, HG.out.2.2⟩).mono ?_
        rintro e W2 (⟨_, rfl, hW⟩ | ⟨hok, P, rfl, hT⟩)
        · have HB2 := Lib.hid (belowOn HB.out hW)
          have HM2 := Lib.hid (HM.out.below hW)
          clear hW HX x0 x1 x2 x3 HM HB
          obtain ⟨b0, b1, b2, b3, b4, b5, b6, b7, b8, bf⟩ := HM2.out.cells
          go_wp2_with fail
          refine (colNil_c l j xc m xa p fd tl cy _).mono ?_
          rintro e W9 ⟨rfl, hW⟩
          have HB9 := Lib.hid (belowOn HB2.out hW); have HM9 := Lib.hid (HM2.out.below hW)
          clear hW HM2 HB2 b0 b1 b2 b3 b4 b5 b6 b7 b8 bf
          obtain ⟨b0, b1, b2, b3, b4, b5, b6, b7, b8, bf⟩ := HM9.out.cells
          have hl9 : w.heap.size + 1 < W9.heap.size := HM9.out.lt
          have hn9 : w.heap.size + 1 ≠ W9.heap.size := by omega
          go_wp2_with fail
          go_ret
          exact ⟨rfl, below_on HB9.out _⟩
        · have HM2 := Lib.hid (HM.out.below hT.old)
          obtain ⟨b0, b1, b2, b3, b4, b5, b6, b7, b8, bf⟩ := HM2.out.cells
          have HT := Lib.hid hT
          clear hT x0 x1 x2 x3
          go_wp2_with fail
          refine (Far_c ⟨l, j, xc, m, xa, p, fd, tl, cy⟩ _).mono ?_
          rintro e W3 ⟨far, rfl, hW, hnr⟩
          have HT3 := Lib.hid (HT.out.below hW)
          have HM3 := Lib.hid (HM2.out.below hW)
          have hold : Below V.heap.size V W3 := HT3.out.old
          clear hW HT HM2 b0 b1 b2 b3 b4 b5 b6 b7 b8 bf
          cases far
          · obtain ⟨nj, nc, nm, nt, ny⟩ := (hnr rfl).all
            clear hnr
            unfold nearN at nj nc nm nt ny
            dsimp only at nj nc nm nt ny
            have hu : Dy.U ⟨f, 0, 0, 0, 0, 0⟩ := HG.out.2.2.1
            have hC : CfOK ⟨n, a, b, c, d⟩ := ⟨hok.2.1, hok.2.2⟩
            have hn20 : n ≤ 20000 := by have := hok.2.1.prod; have h1 := hok.2.2; have h2 := hok.2.1; unfold Right at h2; omega
            have ha : -1000000 ≤ a ∧ a ≤ 1000000 := by have h2 := hok.2.1; unfold Right at h2; omega
            have hS1 := HS.out.below HB.out
            have HLd : Hid (Calls Tryz.prog 11 #[.pointer (some ⟨P.H, 0, none⟩), .int .i64 0] W3 (HP W3 P.H P.A P.G ⟨n, a, b, c, d⟩ (Dy.act ⟨n, a, b, c, d⟩ ⟨f, 0, 0, 0, 0, 0⟩ 1 0 0 0) (.int .u64 (z5 n 1 0 (f (0 : Int).toNat))))) := Lib.hid (hLoad_c (w := W3) HT3.out.hand hu 0)
            have hA := fun W (h : Two V W P ⟨n, a, b, c, d⟩ (Dy.act ⟨n, a, b, c, d⟩ ⟨f, 0, 0, 0, 0, 0⟩ 1 0 0 0) ⟨f, 0, 0, 0, 0, 0⟩) => col_c (w := W) (C := ⟨n, a, b, c, d⟩) h.hand (hu.act _ 1 0 u64_zero u64_zero) (hS1.below h.old) hok.2.1 hC.pos ⟨l, j, xc, m, xa, p, fd, tl, cy⟩ (HU.out) (by dsimp only; omega)
            have hR := fun (s2 : Dy) W (h : Two V W P ⟨n, a, b, c, d⟩ s2 ⟨f, 0, 0, 0, 0, 0⟩) => rcol_c (w := W) (C := ⟨n, a, b, c, d⟩) (s := ⟨f, 0, 0, 0, 0, 0⟩) h.ref h.ltR hok.2.1 hu ⟨l, j, xc, m, xa, p, fd, tl, cy⟩ HU.out (by dsimp only; omega)
            rw [colS_load] at hA
            generalize Dy.act ⟨n, a, b, c, d⟩ ⟨f, 0, 0, 0, 0, 0⟩ 1 0 0 0 = s1 at *
            generalize hst : colS ⟨n, a, b, c, d⟩ ⟨f, 0, 0, 0, 0, 0⟩ ⟨l, j, xc, m, xa, p, fd, tl, cy⟩ = r at *
            obtain ⟨s', y, r0⟩ := r
            dsimp only at hA hR
            have HA := Lib.hid hA; have HR := Lib.hid hR; have HN := Lib.hid hn20
            have HB1 : Hid (∀ W, Calls Tryz.prog 14 #[.agg #[.int .i64 a, .int .i64 b, .int .i64 c, .int .i64 d]] W fun e w' => e = .returned (colV 1 0 0 0 0 0 false (a - 1) 0) ∧ Below W.heap.size W w') := Lib.hid (fun W => Begin19_c a b c d ha W)
            have HB2 : Hid (∀ W, Calls Tryz.prog 15 #[.agg #[.int .i64 a, .int .i64 b, .int .i64 c, .int .i64 d]] W fun e w' => e = .returned (colV 1 0 0 0 0 0 false (a - 1) 0) ∧ Below W.heap.size W w') := Lib.hid (fun W => rBegin19_c a b c d ha W)
            clear hA hR hn20 hst hu hC hold hok HG HS HU hS1 nj nc nm nt ny
            go_wp2_with fail
            refine HLd.out.mono ?_
            rintro e W4 hp
            obtain ⟨rfl, hT⟩ := Two.step HT3.out hp
            have HT4 := Lib.hid hT
            have HM4 : Hid (Col9 _ (w.heap.size + 1) l j xc m xa p fd tl cy) := Lib.hid (HM.out.below hT.old)
            clear hp hT HT3 HM3 HLd
            obtain ⟨b0, b1, b2, b3, b4, b5, b6, b7, b8, bf⟩ := HM4.out.cells
            go_wp2_with fail
            refine (HA.out _ HT4.out).mono ?_
            rintro e W5 hp
            obtain ⟨rfl, hT⟩ := Two.step HT4.out hp
            clear hp
            have HT5 := Lib.hid (hT.below (below_new W5 (.cells #[.int .i64 y.l, .int .i64 y.j, .int .i64 y.c, .int .i64 y.m, .int .u64 y.a, .int .u64 y.p, .bool y.fd, .int .i64 y.tl, .int .i64 y.cy] 28)))
            have HM5 : Hid (Col9 _ (w.heap.size + 1) l j xc m xa p fd tl cy) := Lib.hid (HM.out.below HT5.out.old)
            have HN5 := Lib.hid (Col9.new W5 y.l y.j y.c y.m y.a y.p y.fd y.tl y.cy)
            have HP5 := Lib.hid (hT.apart (Nat.le_refl W5.heap.size))
            clear hT HT4 HM4 HA b0 b1 b2 b3 b4 b5 b6 b7 b8 bf
            obtain ⟨b0, b1, b2, b3, b4, b5, b6, b7, b8, bf⟩ := HM5.out.cells
            go_wp2_with fail
            refine (HR.out _ _ HT5.out).mono ?_
            rintro e W6 hp
            have hN6 := HN5.out.other (Pl.sav (.inr hp.2.2) HN5.out.lt HP5.out)
            obtain ⟨rfl, hT⟩ := Two.rstep HT5.out hp
            have HT7 := Lib.hid (hT.below (below_new W6 (.cells #[.int .i64 y.l, .int .i64 y.j, .int .i64 y.c, .int .i64 y.m, .int .u64 y.a, .int .u64 y.p, .bool y.fd, .int .i64 y.tl, .int .i64 y.cy] 28)))
            have HN7 := Lib.hid (hN6.below (below_new W6 (.cells #[.int .i64 y.l, .int .i64 y.j, .int .i64 y.c, .int .i64 y.m, .int .u64 y.a, .int .u64 y.p, .bool y.fd, .int .i64 y.tl, .int .i64 y.cy] 28)))
            have HO7 := Lib.hid (Col9.new W6 y.l y.j y.c y.m y.a y.p y.fd y.tl y.cy)
            have HX7 := Lib.hid (HX.out.below HT7.out.old)
            clear hp hN6 hT HT5 HM5 HN5 HP5 HR HX HM b0 b1 b2 b3 b4 b5 b6 b7 b8 bf
            generalize hZp : W5.heap.size = Zp at *
            clear hZp
            go_wp2_with fail
            generalize W6.alloc (.cells #[.int .i64 y.l, .int .i64 y.j, .int .i64 y.c, .int .i64 y.m, .int .u64 y.a, .int .u64 y.p, .bool y.fd, .int .i64 y.tl, .int .i64 y.cy] 28) = W7 at *
            generalize W6.heap.size = Zq at *
            obtain ⟨b0, b1, b2, b3, b4, b5, b6, b7, b8, bf⟩ := HN7.out.cells
            obtain ⟨d0, d1, d2, d3, d4, d5, d6, d7, d8, df⟩ := HO7.out.cells
            obtain ⟨x0, x1, x2, x3⟩ := HX7.out
            have HT8 := Lib.hid HT7.out.drew; have HN8 := Lib.hid (HN7.out.other (w' := W7.drew) rfl); have HO8 := Lib.hid (HO7.out.other (w' := W7.drew) rfl); have HX8 : Hid (BoxAt W7.drew w.heap.size a b c d) := Lib.hid HX7.out
            clear HT7 HN7 HO7 HX7
            go_region_held3 ((fun w' => w'.cell? ⟨w.heap.size, 0, none⟩ = some (.int .i64 a) ∧ w'.cell? ⟨w.heap.size, 1, none⟩ = some (.int .i64 b) ∧ w'.cell? ⟨w.heap.size, 2, none⟩ = some (.int .i64 c) ∧ w'.cell? ⟨w.heap.size, 3, none⟩ = some (.int .i64 d) ∧ w'.cell? ⟨Zp, 0, none⟩ = some (.int .i64 y.l) ∧ w'.cell? ⟨Zp, 1, none⟩ = some (.int .i64 y.j) ∧ w'.cell? ⟨Zp, 2, none⟩ = some (.int .i64 y.c) ∧ w'.cell? ⟨Zp, 3, none⟩ = some (.int .i64 y.m) ∧ w'.cell? ⟨Zp, 4, none⟩ = some (.int .u64 y.a) ∧ w'.cell? ⟨Zp, 5, none⟩ = some (.int .u64 y.p) ∧ w'.cell? ⟨Zp, 6, none⟩ = some (.bool y.fd) ∧ w'.cell? ⟨Zp, 7, none⟩ = some (.int .i64 y.tl) ∧ w'.cell? ⟨Zp, 8, none⟩ = some (.int .i64 y.cy) ∧ w'.cell? ⟨Zq, 0, none⟩ = some (.int .i64 y.l) ∧ w'.cell? ⟨Zq, 1, none⟩ = some (.int .i64 y.j) ∧ w'.cell? ⟨Zq, 2, none⟩ = some (.int .i64 y.c) ∧ w'.cell? ⟨Zq, 3, none⟩ = some (.int .i64 y.m) ∧ w'.cell? ⟨Zq, 4, none⟩ = some (.int .u64 y.a) ∧ w'.cell? ⟨Zq, 5, none⟩ = some (.int .u64 y.p) ∧ w'.cell? ⟨Zq, 6, none⟩ = some (.bool y.fd) ∧ w'.cell? ⟨Zq, 7, none⟩ = some (.int .i64 y.tl) ∧ w'.cell? ⟨Zq, 8, none⟩ = some (.int .i64 y.cy))) (exact ⟨x0, x1, x2, x3, b0, b1, b2, b3, b4, b5, b6, b7, b8, d0, d1, d2, d3, d4, d5, d6, d7, d8⟩)
              (first
                | (go_at_call 13
                   refine (Alike_b HT8.out HN.out).mono ?_
                   rintro e U ⟨rfl, hT, hb⟩
                   have HT9 := Lib.hid hT
                   clear hT
                   have HN9 := Lib.hid (HN8.out.below hb); have HO9 := Lib.hid (HO8.out.below hb); have HX9 := Lib.hid (HX8.out.below hb)
                   clear hb HN8 HO8 HX8 HT8 HN x0 x1 x2 x3 b0 b1 b2 b3 b4 b5 b6 b7 b8 bf d0 d1 d2 d3 d4 d5 d6 d7 d8 df
                   have HT8 := HT9; have HN8 := HN9; have HO8 := HO9; have HX8 := HX9
                   clear HT9 HN9 HO9 HX9
                   obtain ⟨b0, b1, b2, b3, b4, b5, b6, b7, b8, bf⟩ := HN8.out.cells
                   obtain ⟨d0, d1, d2, d3, d4, d5, d6, d7, d8, df⟩ := HO8.out.cells
                   obtain ⟨x0, x1, x2, x3⟩ := HX8.out)
                | (go_at_call 14
                   refine (HB1.out _).mono ?_
                   rintro e U ⟨rfl, hb⟩
                   have HT9 := Lib.hid (HT8.out.below hb)
                   have HN9 := Lib.hid (HN8.out.below hb); have HO9 := Lib.hid (HO8.out.below hb); have HX9 := Lib.hid (HX8.out.below hb)
                   clear hb HN8 HO8 HX8 HT8 HB1 x0 x1 x2 x3 b0 b1 b2 b3 b4 b5 b6 b7 b8 bf d0 d1 d2 d3 d4 d5 d6 d7 d8 df
                   have HT8 := HT9; have HN8 := HN9; have HO8 := HO9; have HX8 := HX9
                   clear HT9 HN9 HO9 HX9
                   obtain ⟨b0, b1, b2, b3, b4, b5, b6, b7, b8, bf⟩ := HN8.out.cells
                   obtain ⟨d0, d1, d2, d3, d4, d5, d6, d7, d8, df⟩ := HO8.out.cells
                   obtain ⟨x0, x1, x2, x3⟩ := HX8.out)
                | (go_at_call 15
                   refine (HB2.out _).mono ?_
                   rintro e U ⟨rfl, hb⟩
                   have HT9 := Lib.hid (HT8.out.below hb)
                   have HN9 := Lib.hid (HN8.out.below hb); have HO9 := Lib.hid (HO8.out.below hb); have HX9 := Lib.hid (HX8.out.below hb)
                   clear hb HN8 HO8 HX8 HT8 HB2 x0 x1 x2 x3 b0 b1 b2 b3 b4 b5 b6 b7 b8 bf d0 d1 d2 d3 d4 d5 d6 d7 d8 df
                   have HT8 := HT9; have HN8 := HN9; have HO8 := HO9; have HX8 := HX9
                   clear HT9 HN9 HO9 HX9
                   obtain ⟨b0, b1, b2, b3, b4, b5, b6, b7, b8, bf⟩ := HN8.out.cells
                   obtain ⟨d0, d1, d2, d3, d4, d5, d6, d7, d8, df⟩ := HO8.out.cells
                   obtain ⟨x0, x1, x2, x3⟩ := HX8.out))
            all_goals
              clear HN8 HO8 HX8 x0 x1 x2 x3 b0 b1 b2 b3 b4 b5 b6 b7 b8 bf d0 d1 d2 d3 d4 d5 d6 d7 d8 df
              go_wp2_with fail
              go_ret
              exact ⟨rfl, belowOn HB.out HT8.out.old⟩
          · have HB3 := Lib.hid (belowOn HB.out hold)
            clear HT3 hold HB hnr HM HX
            obtain ⟨b0, b1, b2, b3, b4, b5, b6, b7, b8, bf⟩ := HM3.out.cells
            go_wp2_with fail
            refine (colNil_c l j xc m xa p fd tl cy _).mono ?_
            rintro e W9 ⟨rfl, hW⟩
            have HB9 := Lib.hid (belowOn HB3.out hW); have HM9 := Lib.hid (HM3.out.below hW)
            clear hW HM3 HB3 b0 b1 b2 b3 b4 b5 b6 b7 b8 bf
            obtain ⟨b0, b1, b2, b3, b4, b5, b6, b7, b8, bf⟩ := HM9.out.cells
            have hl9 : w.heap.size + 1 < W9.heap.size := HM9.out.lt
            have hn9 : w.heap.size + 1 ≠ W9.heap.size := by omega
            go_wp2_with fail
            go_ret
            exact ⟨rfl, below_on HB9.out _⟩
    · have d20 : decide (20 ≤ l) = true := decide_eq_true h20
      have d24 : decide (l ≤ 24) = false := decide_eq_false h24
      have d14 : (l == 14) = false := by simp; omega
      have hsw : sweptN l xc = -1 := by unfold sweptN; rw [if_neg (by omega), if_neg (by omega)]
      have HMk : Hid (∀ W, Calls Tryz.prog 5 #[(colV l j xc m xa p fd tl cy)] W fun e w' => e = .returned (.bool (marksL l)) ∧ Below W.heap.size W w') := Lib.hid (fun W => Marks_c l j xc m xa p fd tl cy W)
      have HMr : Hid (∀ W, Calls Tryz.prog 6 #[(colV l j xc m xa p fd tl cy)] W fun e w' => e = .returned (.bool (marksL l)) ∧ Below W.heap.size W w') := Lib.hid (fun W => rMarks_c l j xc m xa p fd tl cy W)
      have HSw : Hid (∀ W, Calls Tryz.prog 7 #[(colV l j xc m xa p fd tl cy)] W fun e w' => e = .returned (.int .i64 (sweptN l xc)) ∧ Below W.heap.size W w') := Lib.hid (fun W => Swept_c l j xc m xa p fd tl cy W)
      rw [hsw] at HSw
      generalize marksL l = mk at *
      have hmk : (mk != mk) = false := by simp
      clear hsw h20 h24
      obtain ⟨a0, a1, a2, a3, a4, a5, a6, a7, a8, af⟩ := HM1.out.cells
      go_wp2_with fail
      have HB := Lib.hid HB1.out.drew; have HX : Hid (BoxAt W1.drew w.heap.size a b c d) := Lib.hid HX1.out; have HM := Lib.hid (HM1.out.other (w' := W1.drew) rfl)
      clear HB1 HX1 HM1 a0 a1 a2 a3 a4 a5 a6 a7 a8 af
      obtain ⟨a0, a1, a2, a3, a4, a5, a6, a7, a8, af⟩ := HM.out.cells
      go_region_held3 ((fun w' => w'.cell? ⟨w.heap.size + 1, 0, none⟩ = some (.int .i64 l) ∧ w'.cell? ⟨w.heap.size + 1, 1, none⟩ = some (.int .i64 j) ∧ w'.cell? ⟨w.heap.size + 1, 2, none⟩ = some (.int .i64 xc) ∧ w'.cell? ⟨w.heap.size + 1, 3, none⟩ = some (.int .i64 m) ∧ w'.cell? ⟨w.heap.size + 1, 4, none⟩ = some (.int .u64 xa) ∧ w'.cell? ⟨w.heap.size + 1, 5, none⟩ = some (.int .u64 p) ∧ w'.cell? ⟨w.heap.size + 1, 6, none⟩ = some (.bool fd) ∧ w'.cell? ⟨w.heap.size + 1, 7, none⟩ = some (.int .i64 tl) ∧ w'.cell? ⟨w.heap.size + 1, 8, none⟩ = some (.int .i64 cy))) (exact ⟨a0, a1, a2, a3, a4, a5, a6, a7, a8⟩)
        (first
          | (go_at_call 5
             refine (HMk.out _).mono ?_
             rintro e V ⟨rfl, hb⟩
             have HB' := Lib.hid (belowOn HB.out hb); have HX' := Lib.hid (HX.out.below hb); have HM' := Lib.hid (HM.out.below hb)
             clear hb HB HX HM HMk a0 a1 a2 a3 a4 a5 a6 a7 a8 af
             have HB := HB'; have HX := HX'; have HM := HM'
             clear HB' HX' HM'
             obtain ⟨a0, a1, a2, a3, a4, a5, a6, a7, a8, af⟩ := HM.out.cells)
          | (go_at_call 6
             refine (HMr.out _).mono ?_
             rintro e V ⟨rfl, hb⟩
             have HB' := Lib.hid (belowOn HB.out hb); have HX' := Lib.hid (HX.out.below hb); have HM' := Lib.hid (HM.out.below hb)
             clear hb HB HX HM HMr a0 a1 a2 a3 a4 a5 a6 a7 a8 af
             have HB := HB'; have HX := HX'; have HM := HM'
             clear HB' HX' HM'
             obtain ⟨a0, a1, a2, a3, a4, a5, a6, a7, a8, af⟩ := HM.out.cells)
          | (go_at_call 7
             refine (HSw.out _).mono ?_
             rintro e V ⟨rfl, hb⟩
             have HB' := Lib.hid (belowOn HB.out hb); have HX' := Lib.hid (HX.out.below hb); have HM' := Lib.hid (HM.out.below hb)
             clear hb HB HX HM HSw a0 a1 a2 a3 a4 a5 a6 a7 a8 af
             have HB := HB'; have HX := HX'; have HM := HM'
             clear HB' HX' HM'
             obtain ⟨a0, a1, a2, a3, a4, a5, a6, a7, a8, af⟩ := HM.out.cells))
      all_goals
        clear hmk d20 d24 d14 a0 a1 a2 a3 a4 a5 a6 a7 a8 af
        have hlt : w.heap.size + 1 < V.heap.size := HM.out.lt
        obtain ⟨x0, x1, x2, x3⟩ := HX.out
        go_wp2_with fail
        refine (Both_any a b c d v0 n c0 f _ (HS.out.below HB.out) ⟨HG.out.1, HG.out.2.1.below HB.out, HG.out.2.2⟩).mono ?_
        rintro e W2 (⟨_, rfl, hW⟩ | ⟨hok, P, rfl, hT⟩)
        · have HB2 := Lib.hid (belowOn HB.out hW)
          have HM2 := Lib.hid (HM.out.below hW)
          clear hW HX x0 x1 x2 x3 HM HB
          obtain ⟨b0, b1, b2, b3, b4, b5, b6, b7, b8, bf⟩ := HM2.out.cells
          go_wp2_with fail
          refine (colNil_c l j xc m xa p fd tl cy _).mono ?_
          rintro e W9 ⟨rfl, hW⟩
          have HB9 := Lib.hid (belowOn HB2.out hW); have HM9 := Lib.hid (HM2.out.below hW)
          clear hW HM2 HB2 b0 b1 b2 b3 b4 b5 b6 b7 b8 bf
          obtain ⟨b0, b1, b2, b3, b4, b5, b6, b7, b8, bf⟩ := HM9.out.cells
          have hl9 : w.heap.size + 1 < W9.heap.size := HM9.out.lt
          have hn9 : w.heap.size + 1 ≠ W9.heap.size := by omega
          go_wp2_with fail
          go_ret
          exact ⟨rfl, below_on HB9.out _⟩
        · have HM2 := Lib.hid (HM.out.below hT.old)
          obtain ⟨b0, b1, b2, b3, b4, b5, b6, b7, b8, bf⟩ := HM2.out.cells
          have HT := Lib.hid hT
          clear hT x0 x1 x2 x3
          go_wp2_with fail
          refine (Far_c ⟨l, j, xc, m, xa, p, fd, tl, cy⟩ _).mono ?_
          rintro e W3 ⟨far, rfl, hW, hnr⟩
          have HT3 := Lib.hid (HT.out.below hW)
          have HM3 := Lib.hid (HM2.out.below hW)
          have hold : Below V.heap.size V W3 := HT3.out.old
          clear hW HT HM2 b0 b1 b2 b3 b4 b5 b6 b7 b8 bf
          cases far
          · obtain ⟨nj, nc, nm, nt, ny⟩ := (hnr rfl).all
            clear hnr
            unfold nearN at nj nc nm nt ny
            dsimp only at nj nc nm nt ny
            have hu : Dy.U ⟨f, 0, 0, 0, 0, 0⟩ := HG.out.2.2.1
            have hC : CfOK ⟨n, a, b, c, d⟩ := ⟨hok.2.1, hok.2.2⟩
            have hn20 : n ≤ 20000 := by have := hok.2.1.prod; have h1 := hok.2.2; have h2 := hok.2.1; unfold Right at h2; omega
            have ha : -1000000 ≤ a ∧ a ≤ 1000000 := by have h2 := hok.2.1; unfold Right at h2; omega
            have hS1 := HS.out.below HB.out
            have HLd : Hid (Calls Tryz.prog 11 #[.pointer (some ⟨P.H, 0, none⟩), .int .i64 0] W3 (HP W3 P.H P.A P.G ⟨n, a, b, c, d⟩ (Dy.act ⟨n, a, b, c, d⟩ ⟨f, 0, 0, 0, 0, 0⟩ 1 0 0 0) (.int .u64 (z5 n 1 0 (f (0 : Int).toNat))))) := Lib.hid (hLoad_c (w := W3) HT3.out.hand hu 0)
            have hA := fun W (h : Two V W P ⟨n, a, b, c, d⟩ (Dy.act ⟨n, a, b, c, d⟩ ⟨f, 0, 0, 0, 0, 0⟩ 1 0 0 0) ⟨f, 0, 0, 0, 0, 0⟩) => col_c (w := W) (C := ⟨n, a, b, c, d⟩) h.hand (hu.act _ 1 0 u64_zero u64_zero) (hS1.below h.old) hok.2.1 hC.pos ⟨l, j, xc, m, xa, p, fd, tl, cy⟩ (HU.out) (by dsimp only; omega)
            have hR := fun (s2 : Dy) W (h : Two V W P ⟨n, a, b, c, d⟩ s2 ⟨f, 0, 0, 0, 0, 0⟩) => rcol_c (w := W) (C := ⟨n, a, b, c, d⟩) (s := ⟨f, 0, 0, 0, 0, 0⟩) h.ref h.ltR hok.2.1 hu ⟨l, j, xc, m, xa, p, fd, tl, cy⟩ HU.out (by dsimp only; omega)
            rw [colS_load] at hA
            generalize Dy.act ⟨n, a, b, c, d⟩ ⟨f, 0, 0, 0, 0, 0⟩ 1 0 0 0 = s1 at *
            generalize hst : colS ⟨n, a, b, c, d⟩ ⟨f, 0, 0, 0, 0, 0⟩ ⟨l, j, xc, m, xa, p, fd, tl, cy⟩ = r at *
            obtain ⟨s', y, r0⟩ := r
            dsimp only at hA hR
            have HA := Lib.hid hA; have HR := Lib.hid hR; have HN := Lib.hid hn20
            have HB1 : Hid (∀ W, Calls Tryz.prog 14 #[.agg #[.int .i64 a, .int .i64 b, .int .i64 c, .int .i64 d]] W fun e w' => e = .returned (colV 1 0 0 0 0 0 false (a - 1) 0) ∧ Below W.heap.size W w') := Lib.hid (fun W => Begin19_c a b c d ha W)
            have HB2 : Hid (∀ W, Calls Tryz.prog 15 #[.agg #[.int .i64 a, .int .i64 b, .int .i64 c, .int .i64 d]] W fun e w' => e = .returned (colV 1 0 0 0 0 0 false (a - 1) 0) ∧ Below W.heap.size W w') := Lib.hid (fun W => rBegin19_c a b c d ha W)
            clear hA hR hn20 hst hu hC hold hok HG HS HU hS1 nj nc nm nt ny
            go_wp2_with fail
            refine HLd.out.mono ?_
            rintro e W4 hp
            obtain ⟨rfl, hT⟩ := Two.step HT3.out hp
            have HT4 := Lib.hid hT
            have HM4 : Hid (Col9 _ (w.heap.size + 1) l j xc m xa p fd tl cy) := Lib.hid (HM.out.below hT.old)
            clear hp hT HT3 HM3 HLd
            obtain ⟨b0, b1, b2, b3, b4, b5, b6, b7, b8, bf⟩ := HM4.out.cells
            go_wp2_with fail
            refine (HA.out _ HT4.out).mono ?_
            rintro e W5 hp
            obtain ⟨rfl, hT⟩ := Two.step HT4.out hp
            clear hp
            have HT5 := Lib.hid (hT.below (below_new W5 (.cells #[.int .i64 y.l, .int .i64 y.j, .int .i64 y.c, .int .i64 y.m, .int .u64 y.a, .int .u64 y.p, .bool y.fd, .int .i64 y.tl, .int .i64 y.cy] 28)))
            have HM5 : Hid (Col9 _ (w.heap.size + 1) l j xc m xa p fd tl cy) := Lib.hid (HM.out.below HT5.out.old)
            have HN5 := Lib.hid (Col9.new W5 y.l y.j y.c y.m y.a y.p y.fd y.tl y.cy)
            have HP5 := Lib.hid (hT.apart (Nat.le_refl W5.heap.size))
            clear hT HT4 HM4 HA b0 b1 b2 b3 b4 b5 b6 b7 b8 bf
            obtain ⟨b0, b1, b2, b3, b4, b5, b6, b7, b8, bf⟩ := HM5.out.cells
            go_wp2_with fail
            refine (HR.out _ _ HT5.out).mono ?_
            rintro e W6 hp
            have hN6 := HN5.out.other (Pl.sav (.inr hp.2.2) HN5.out.lt HP5.out)
            obtain ⟨rfl, hT⟩ := Two.rstep HT5.out hp
            have HT7 := Lib.hid (hT.below (below_new W6 (.cells #[.int .i64 y.l, .int .i64 y.j, .int .i64 y.c, .int .i64 y.m, .int .u64 y.a, .int .u64 y.p, .bool y.fd, .int .i64 y.tl, .int .i64 y.cy] 28)))
            have HN7 := Lib.hid (hN6.below (below_new W6 (.cells #[.int .i64 y.l, .int .i64 y.j, .int .i64 y.c, .int .i64 y.m, .int .u64 y.a, .int .u64 y.p, .bool y.fd, .int .i64 y.tl, .int .i64 y.cy] 28)))
            have HO7 := Lib.hid (Col9.new W6 y.l y.j y.c y.m y.a y.p y.fd y.tl y.cy)
            have HX7 := Lib.hid (HX.out.below HT7.out.old)
            clear hp hN6 hT HT5 HM5 HN5 HP5 HR HX HM b0 b1 b2 b3 b4 b5 b6 b7 b8 bf
            generalize hZp : W5.heap.size = Zp at *
            clear hZp
            go_wp2_with fail
            generalize W6.alloc (.cells #[.int .i64 y.l, .int .i64 y.j, .int .i64 y.c, .int .i64 y.m, .int .u64 y.a, .int .u64 y.p, .bool y.fd, .int .i64 y.tl, .int .i64 y.cy] 28) = W7 at *
            generalize W6.heap.size = Zq at *
            obtain ⟨b0, b1, b2, b3, b4, b5, b6, b7, b8, bf⟩ := HN7.out.cells
            obtain ⟨d0, d1, d2, d3, d4, d5, d6, d7, d8, df⟩ := HO7.out.cells
            obtain ⟨x0, x1, x2, x3⟩ := HX7.out
            have HT8 := Lib.hid HT7.out.drew; have HN8 := Lib.hid (HN7.out.other (w' := W7.drew) rfl); have HO8 := Lib.hid (HO7.out.other (w' := W7.drew) rfl); have HX8 : Hid (BoxAt W7.drew w.heap.size a b c d) := Lib.hid HX7.out
            clear HT7 HN7 HO7 HX7
            go_region_held3 ((fun w' => w'.cell? ⟨w.heap.size, 0, none⟩ = some (.int .i64 a) ∧ w'.cell? ⟨w.heap.size, 1, none⟩ = some (.int .i64 b) ∧ w'.cell? ⟨w.heap.size, 2, none⟩ = some (.int .i64 c) ∧ w'.cell? ⟨w.heap.size, 3, none⟩ = some (.int .i64 d) ∧ w'.cell? ⟨Zp, 0, none⟩ = some (.int .i64 y.l) ∧ w'.cell? ⟨Zp, 1, none⟩ = some (.int .i64 y.j) ∧ w'.cell? ⟨Zp, 2, none⟩ = some (.int .i64 y.c) ∧ w'.cell? ⟨Zp, 3, none⟩ = some (.int .i64 y.m) ∧ w'.cell? ⟨Zp, 4, none⟩ = some (.int .u64 y.a) ∧ w'.cell? ⟨Zp, 5, none⟩ = some (.int .u64 y.p) ∧ w'.cell? ⟨Zp, 6, none⟩ = some (.bool y.fd) ∧ w'.cell? ⟨Zp, 7, none⟩ = some (.int .i64 y.tl) ∧ w'.cell? ⟨Zp, 8, none⟩ = some (.int .i64 y.cy) ∧ w'.cell? ⟨Zq, 0, none⟩ = some (.int .i64 y.l) ∧ w'.cell? ⟨Zq, 1, none⟩ = some (.int .i64 y.j) ∧ w'.cell? ⟨Zq, 2, none⟩ = some (.int .i64 y.c) ∧ w'.cell? ⟨Zq, 3, none⟩ = some (.int .i64 y.m) ∧ w'.cell? ⟨Zq, 4, none⟩ = some (.int .u64 y.a) ∧ w'.cell? ⟨Zq, 5, none⟩ = some (.int .u64 y.p) ∧ w'.cell? ⟨Zq, 6, none⟩ = some (.bool y.fd) ∧ w'.cell? ⟨Zq, 7, none⟩ = some (.int .i64 y.tl) ∧ w'.cell? ⟨Zq, 8, none⟩ = some (.int .i64 y.cy))) (exact ⟨x0, x1, x2, x3, b0, b1, b2, b3, b4, b5, b6, b7, b8, d0, d1, d2, d3, d4, d5, d6, d7, d8⟩)
              (first
                | (go_at_call 13
                   refine (Alike_b HT8.out HN.out).mono ?_
                   rintro e U ⟨rfl, hT, hb⟩
                   have HT9 := Lib.hid hT
                   clear hT
                   have HN9 := Lib.hid (HN8.out.below hb); have HO9 := Lib.hid (HO8.out.below hb); have HX9 := Lib.hid (HX8.out.below hb)
                   clear hb HN8 HO8 HX8 HT8 HN x0 x1 x2 x3 b0 b1 b2 b3 b4 b5 b6 b7 b8 bf d0 d1 d2 d3 d4 d5 d6 d7 d8 df
                   have HT8 := HT9; have HN8 := HN9; have HO8 := HO9; have HX8 := HX9
                   clear HT9 HN9 HO9 HX9
                   obtain ⟨b0, b1, b2, b3, b4, b5, b6, b7, b8, bf⟩ := HN8.out.cells
                   obtain ⟨d0, d1, d2, d3, d4, d5, d6, d7, d8, df⟩ := HO8.out.cells
                   obtain ⟨x0, x1, x2, x3⟩ := HX8.out)
                | (go_at_call 14
                   refine (HB1.out _).mono ?_
                   rintro e U ⟨rfl, hb⟩
                   have HT9 := Lib.hid (HT8.out.below hb)
                   have HN9 := Lib.hid (HN8.out.below hb); have HO9 := Lib.hid (HO8.out.below hb); have HX9 := Lib.hid (HX8.out.below hb)
                   clear hb HN8 HO8 HX8 HT8 HB1 x0 x1 x2 x3 b0 b1 b2 b3 b4 b5 b6 b7 b8 bf d0 d1 d2 d3 d4 d5 d6 d7 d8 df
                   have HT8 := HT9; have HN8 := HN9; have HO8 := HO9; have HX8 := HX9
                   clear HT9 HN9 HO9 HX9
                   obtain ⟨b0, b1, b2, b3, b4, b5, b6, b7, b8, bf⟩ := HN8.out.cells
                   obtain ⟨d0, d1, d2, d3, d4, d5, d6, d7, d8, df⟩ := HO8.out.cells
                   obtain ⟨x0, x1, x2, x3⟩ := HX8.out)
                | (go_at_call 15
                   refine (HB2.out _).mono ?_
                   rintro e U ⟨rfl, hb⟩
                   have HT9 := Lib.hid (HT8.out.below hb)
                   have HN9 := Lib.hid (HN8.out.below hb); have HO9 := Lib.hid (HO8.out.below hb); have HX9 := Lib.hid (HX8.out.below hb)
                   clear hb HN8 HO8 HX8 HT8 HB2 x0 x1 x2 x3 b0 b1 b2 b3 b4 b5 b6 b7 b8 bf d0 d1 d2 d3 d4 d5 d6 d7 d8 df
                   have HT8 := HT9; have HN8 := HN9; have HO8 := HO9; have HX8 := HX9
                   clear HT9 HN9 HO9 HX9
                   obtain ⟨b0, b1, b2, b3, b4, b5, b6, b7, b8, bf⟩ := HN8.out.cells
                   obtain ⟨d0, d1, d2, d3, d4, d5, d6, d7, d8, df⟩ := HO8.out.cells
                   obtain ⟨x0, x1, x2, x3⟩ := HX8.out))
            all_goals
              clear HN8 HO8 HX8 x0 x1 x2 x3 b0 b1 b2 b3 b4 b5 b6 b7 b8 bf d0 d1 d2 d3 d4 d5 d6 d7 d8 df
              go_wp2_with fail
              go_ret
              exact ⟨rfl, belowOn HB.out HT8.out.old⟩
          · have HB3 := Lib.hid (belowOn HB.out hold)
            clear HT3 hold HB hnr HM HX
            obtain ⟨b0, b1, b2, b3, b4, b5, b6, b7, b8, bf⟩ := HM3.out.cells
            go_wp2_with fail
            refine (colNil_c l j xc m xa p fd tl cy _).mono ?_
            rintro e W9 ⟨rfl, hW⟩
            have HB9 := Lib.hid (belowOn HB3.out hW); have HM9 := Lib.hid (HM3.out.below hW)
            clear hW HM3 HB3 b0 b1 b2 b3 b4 b5 b6 b7 b8 bf
            obtain ⟨b0, b1, b2, b3, b4, b5, b6, b7, b8, bf⟩ := HM9.out.cells
            have hl9 : w.heap.size + 1 < W9.heap.size := HM9.out.lt
            have hn9 : w.heap.size + 1 ≠ W9.heap.size := by omega
            go_wp2_with fail
            go_ret
            exact ⟨rfl, below_on HB9.out _⟩
  by_cases h14 : l = 14
  · subst h14
    have hsw : sweptN 14 xc = 0 := by unfold sweptN; rw [if_neg (by omega), if_pos rfl]
    have HMk : Hid (∀ W, Calls Tryz.prog 5 #[(colV 14 j xc m xa p fd tl cy)] W fun e w' => e = .returned (.bool (marksL 14)) ∧ Below W.heap.size W w') := Lib.hid (fun W => Marks_c 14 j xc m xa p fd tl cy W)
    have HMr : Hid (∀ W, Calls Tryz.prog 6 #[(colV 14 j xc m xa p fd tl cy)] W fun e w' => e = .returned (.bool (marksL 14)) ∧ Below W.heap.size W w') := Lib.hid (fun W => rMarks_c 14 j xc m xa p fd tl cy W)
    have HSw : Hid (∀ W, Calls Tryz.prog 7 #[(colV 14 j xc m xa p fd tl cy)] W fun e w' => e = .returned (.int .i64 (sweptN 14 xc)) ∧ Below W.heap.size W w') := Lib.hid (fun W => Swept_c 14 j xc m xa p fd tl cy W)
    rw [hsw] at HSw
    generalize marksL 14 = mk at *
    have hmk : (mk != mk) = false := by simp
    clear hsw h20
    obtain ⟨a0, a1, a2, a3, a4, a5, a6, a7, a8, af⟩ := HM1.out.cells
    go_wp2_with fail
    have HB := Lib.hid HB1.out.drew; have HX : Hid (BoxAt W1.drew w.heap.size a b c d) := Lib.hid HX1.out; have HM := Lib.hid (HM1.out.other (w' := W1.drew) rfl)
    clear HB1 HX1 HM1 a0 a1 a2 a3 a4 a5 a6 a7 a8 af
    obtain ⟨a0, a1, a2, a3, a4, a5, a6, a7, a8, af⟩ := HM.out.cells
    go_region_held3 ((fun w' => w'.cell? ⟨w.heap.size + 1, 0, none⟩ = some (.int .i64 14) ∧ w'.cell? ⟨w.heap.size + 1, 1, none⟩ = some (.int .i64 j) ∧ w'.cell? ⟨w.heap.size + 1, 2, none⟩ = some (.int .i64 xc) ∧ w'.cell? ⟨w.heap.size + 1, 3, none⟩ = some (.int .i64 m) ∧ w'.cell? ⟨w.heap.size + 1, 4, none⟩ = some (.int .u64 xa) ∧ w'.cell? ⟨w.heap.size + 1, 5, none⟩ = some (.int .u64 p) ∧ w'.cell? ⟨w.heap.size + 1, 6, none⟩ = some (.bool fd) ∧ w'.cell? ⟨w.heap.size + 1, 7, none⟩ = some (.int .i64 tl) ∧ w'.cell? ⟨w.heap.size + 1, 8, none⟩ = some (.int .i64 cy))) (exact ⟨a0, a1, a2, a3, a4, a5, a6, a7, a8⟩)
      (first
        | (go_at_call 5
           refine (HMk.out _).mono ?_
           rintro e V ⟨rfl, hb⟩
           have HB' := Lib.hid (belowOn HB.out hb); have HX' := Lib.hid (HX.out.below hb); have HM' := Lib.hid (HM.out.below hb)
           clear hb HB HX HM HMk a0 a1 a2 a3 a4 a5 a6 a7 a8 af
           have HB := HB'; have HX := HX'; have HM := HM'
           clear HB' HX' HM'
           obtain ⟨a0, a1, a2, a3, a4, a5, a6, a7, a8, af⟩ := HM.out.cells)
        | (go_at_call 6
           refine (HMr.out _).mono ?_
           rintro e V ⟨rfl, hb⟩
           have HB' := Lib.hid (belowOn HB.out hb); have HX' := Lib.hid (HX.out.below hb); have HM' := Lib.hid (HM.out.below hb)
           clear hb HB HX HM HMr a0 a1 a2 a3 a4 a5 a6 a7 a8 af
           have HB := HB'; have HX := HX'; have HM := HM'
           clear HB' HX' HM'
           obtain ⟨a0, a1, a2, a3, a4, a5, a6, a7, a8, af⟩ := HM.out.cells)
        | (go_at_call 7
           refine (HSw.out _).mono ?_
           rintro e V ⟨rfl, hb⟩
           have HB' := Lib.hid (belowOn HB.out hb); have HX' := Lib.hid (HX.out.below hb); have HM' := Lib.hid (HM.out.below hb)
           clear hb HB HX HM HSw a0 a1 a2 a3 a4 a5 a6 a7 a8 af
           have HB := HB'; have HX := HX'; have HM := HM'
           clear HB' HX' HM'
           obtain ⟨a0, a1, a2, a3, a4, a5, a6, a7, a8, af⟩ := HM.out.cells))
    all_goals
      clear hmk  a0 a1 a2 a3 a4 a5 a6 a7 a8 af
      have hlt : w.heap.size + 1 < V.heap.size := HM.out.lt
      obtain ⟨x0, x1, x2, x3⟩ := HX.out
      go_wp2_with fail
      refine (Both_any a b c d v0 n c0 f _ (HS.out.below HB.out) ⟨HG.out.1, HG.out.2.1.below HB.out, HG.out.2.2⟩).mono ?_
      rintro e W2 (⟨_, rfl, hW⟩ | ⟨hok, P, rfl, hT⟩)
      · have HB2 := Lib.hid (belowOn HB.out hW)
        have HM2 := Lib.hid (HM.out.below hW)
        clear hW HX x0 x1 x2 x3 HM HB
        obtain ⟨b0, b1, b2, b3, b4, b5, b6, b7, b8, bf⟩ := HM2.out.cells
        go_wp2_with fail
        refine (colNil_c 14 j xc m xa p fd tl cy _).mono ?_
        rintro e W9 ⟨rfl, hW⟩
        have HB9 := Lib.hid (belowOn HB2.out hW); have HM9 := Lib.hid (HM2.out.below hW)
        clear hW HM2 HB2 b0 b1 b2 b3 b4 b5 b6 b7 b8 bf
        obtain ⟨b0, b1, b2, b3, b4, b5, b6, b7, b8, bf⟩ := HM9.out.cells
        have hl9 : w.heap.size + 1 < W9.heap.size := HM9.out.lt
        have hn9 : w.heap.size + 1 ≠ W9.heap.size := by omega
        go_wp2_with fail
        go_ret
        exact ⟨rfl, below_on HB9.out _⟩
      · have HM2 := Lib.hid (HM.out.below hT.old)
        obtain ⟨b0, b1, b2, b3, b4, b5, b6, b7, b8, bf⟩ := HM2.out.cells
        have HT := Lib.hid hT
        clear hT x0 x1 x2 x3
        go_wp2_with fail
        refine (Far_c ⟨14, j, xc, m, xa, p, fd, tl, cy⟩ _).mono ?_
        rintro e W3 ⟨far, rfl, hW, hnr⟩
        have HT3 := Lib.hid (HT.out.below hW)
        have HM3 := Lib.hid (HM2.out.below hW)
        have hold : Below V.heap.size V W3 := HT3.out.old
        clear hW HT HM2 b0 b1 b2 b3 b4 b5 b6 b7 b8 bf
        cases far
        · obtain ⟨nj, nc, nm, nt, ny⟩ := (hnr rfl).all
          clear hnr
          unfold nearN at nj nc nm nt ny
          dsimp only at nj nc nm nt ny
          have hu : Dy.U ⟨f, 0, 0, 0, 0, 0⟩ := HG.out.2.2.1
          have hC : CfOK ⟨n, a, b, c, d⟩ := ⟨hok.2.1, hok.2.2⟩
          have hn20 : n ≤ 20000 := by have := hok.2.1.prod; have h1 := hok.2.2; have h2 := hok.2.1; unfold Right at h2; omega
          have ha : -1000000 ≤ a ∧ a ≤ 1000000 := by have h2 := hok.2.1; unfold Right at h2; omega
          have hS1 := HS.out.below HB.out
          have HLd : Hid (Calls Tryz.prog 11 #[.pointer (some ⟨P.H, 0, none⟩), .int .i64 0] W3 (HP W3 P.H P.A P.G ⟨n, a, b, c, d⟩ (Dy.act ⟨n, a, b, c, d⟩ ⟨f, 0, 0, 0, 0, 0⟩ 1 0 0 0) (.int .u64 (z5 n 1 0 (f (0 : Int).toNat))))) := Lib.hid (hLoad_c (w := W3) HT3.out.hand hu 0)
          have hA := fun W (h : Two V W P ⟨n, a, b, c, d⟩ (Dy.act ⟨n, a, b, c, d⟩ ⟨f, 0, 0, 0, 0, 0⟩ 1 0 0 0) ⟨f, 0, 0, 0, 0, 0⟩) => col_c (w := W) (C := ⟨n, a, b, c, d⟩) h.hand (hu.act _ 1 0 u64_zero u64_zero) (hS1.below h.old) hok.2.1 hC.pos ⟨14, j, xc, m, xa, p, fd, tl, cy⟩ (HU.out) (by dsimp only; omega)
          have hR := fun (s2 : Dy) W (h : Two V W P ⟨n, a, b, c, d⟩ s2 ⟨f, 0, 0, 0, 0, 0⟩) => rcol_c (w := W) (C := ⟨n, a, b, c, d⟩) (s := ⟨f, 0, 0, 0, 0, 0⟩) h.ref h.ltR hok.2.1 hu ⟨14, j, xc, m, xa, p, fd, tl, cy⟩ HU.out (by dsimp only; omega)
          rw [colS_load] at hA
          generalize Dy.act ⟨n, a, b, c, d⟩ ⟨f, 0, 0, 0, 0, 0⟩ 1 0 0 0 = s1 at *
          generalize hst : colS ⟨n, a, b, c, d⟩ ⟨f, 0, 0, 0, 0, 0⟩ ⟨14, j, xc, m, xa, p, fd, tl, cy⟩ = r at *
          obtain ⟨s', y, r0⟩ := r
          dsimp only at hA hR
          have HA := Lib.hid hA; have HR := Lib.hid hR; have HN := Lib.hid hn20
          have HB1 : Hid (∀ W, Calls Tryz.prog 14 #[.agg #[.int .i64 a, .int .i64 b, .int .i64 c, .int .i64 d]] W fun e w' => e = .returned (colV 1 0 0 0 0 0 false (a - 1) 0) ∧ Below W.heap.size W w') := Lib.hid (fun W => Begin19_c a b c d ha W)
          have HB2 : Hid (∀ W, Calls Tryz.prog 15 #[.agg #[.int .i64 a, .int .i64 b, .int .i64 c, .int .i64 d]] W fun e w' => e = .returned (colV 1 0 0 0 0 0 false (a - 1) 0) ∧ Below W.heap.size W w') := Lib.hid (fun W => rBegin19_c a b c d ha W)
          clear hA hR hn20 hst hu hC hold hok HG HS HU hS1 nj nc nm nt ny
          go_wp2_with fail
          refine HLd.out.mono ?_
          rintro e W4 hp
          obtain ⟨rfl, hT⟩ := Two.step HT3.out hp
          have HT4 := Lib.hid hT
          have HM4 : Hid (Col9 _ (w.heap.size + 1) 14 j xc m xa p fd tl cy) := Lib.hid (HM.out.below hT.old)
          clear hp hT HT3 HM3 HLd
          obtain ⟨b0, b1, b2, b3, b4, b5, b6, b7, b8, bf⟩ := HM4.out.cells
          go_wp2_with fail
          refine (HA.out _ HT4.out).mono ?_
          rintro e W5 hp
          obtain ⟨rfl, hT⟩ := Two.step HT4.out hp
          clear hp
          have HT5 := Lib.hid (hT.below (below_new W5 (.cells #[.int .i64 y.l, .int .i64 y.j, .int .i64 y.c, .int .i64 y.m, .int .u64 y.a, .int .u64 y.p, .bool y.fd, .int .i64 y.tl, .int .i64 y.cy] 28)))
          have HM5 : Hid (Col9 _ (w.heap.size + 1) 14 j xc m xa p fd tl cy) := Lib.hid (HM.out.below HT5.out.old)
          have HN5 := Lib.hid (Col9.new W5 y.l y.j y.c y.m y.a y.p y.fd y.tl y.cy)
          have HP5 := Lib.hid (hT.apart (Nat.le_refl W5.heap.size))
          clear hT HT4 HM4 HA b0 b1 b2 b3 b4 b5 b6 b7 b8 bf
          obtain ⟨b0, b1, b2, b3, b4, b5, b6, b7, b8, bf⟩ := HM5.out.cells
          go_wp2_with fail
          refine (HR.out _ _ HT5.out).mono ?_
          rintro e W6 hp
          have hN6 := HN5.out.other (Pl.sav (.inr hp.2.2) HN5.out.lt HP5.out)
          obtain ⟨rfl, hT⟩ := Two.rstep HT5.out hp
          have HT7 := Lib.hid (hT.below (below_new W6 (.cells #[.int .i64 y.l, .int .i64 y.j, .int .i64 y.c, .int .i64 y.m, .int .u64 y.a, .int .u64 y.p, .bool y.fd, .int .i64 y.tl, .int .i64 y.cy] 28)))
          have HN7 := Lib.hid (hN6.below (below_new W6 (.cells #[.int .i64 y.l, .int .i64 y.j, .int .i64 y.c, .int .i64 y.m, .int .u64 y.a, .int .u64 y.p, .bool y.fd, .int .i64 y.tl, .int .i64 y.cy] 28)))
          have HO7 := Lib.hid (Col9.new W6 y.l y.j y.c y.m y.a y.p y.fd y.tl y.cy)
          have HX7 := Lib.hid (HX.out.below HT7.out.old)
          clear hp hN6 hT HT5 HM5 HN5 HP5 HR HX HM b0 b1 b2 b3 b4 b5 b6 b7 b8 bf
          generalize hZp : W5.heap.size = Zp at *
          clear hZp
          go_wp2_with fail
          generalize W6.alloc (.cells #[.int .i64 y.l, .int .i64 y.j, .int .i64 y.c, .int .i64 y.m, .int .u64 y.a, .int .u64 y.p, .bool y.fd, .int .i64 y.tl, .int .i64 y.cy] 28) = W7 at *
          generalize W6.heap.size = Zq at *
          obtain ⟨b0, b1, b2, b3, b4, b5, b6, b7, b8, bf⟩ := HN7.out.cells
          obtain ⟨d0, d1, d2, d3, d4, d5, d6, d7, d8, df⟩ := HO7.out.cells
          obtain ⟨x0, x1, x2, x3⟩ := HX7.out
          have HT8 := Lib.hid HT7.out.drew; have HN8 := Lib.hid (HN7.out.other (w' := W7.drew) rfl); have HO8 := Lib.hid (HO7.out.other (w' := W7.drew) rfl); have HX8 : Hid (BoxAt W7.drew w.heap.size a b c d) := Lib.hid HX7.out
          clear HT7 HN7 HO7 HX7
          go_region_held3 ((fun w' => w'.cell? ⟨w.heap.size, 0, none⟩ = some (.int .i64 a) ∧ w'.cell? ⟨w.heap.size, 1, none⟩ = some (.int .i64 b) ∧ w'.cell? ⟨w.heap.size, 2, none⟩ = some (.int .i64 c) ∧ w'.cell? ⟨w.heap.size, 3, none⟩ = some (.int .i64 d) ∧ w'.cell? ⟨Zp, 0, none⟩ = some (.int .i64 y.l) ∧ w'.cell? ⟨Zp, 1, none⟩ = some (.int .i64 y.j) ∧ w'.cell? ⟨Zp, 2, none⟩ = some (.int .i64 y.c) ∧ w'.cell? ⟨Zp, 3, none⟩ = some (.int .i64 y.m) ∧ w'.cell? ⟨Zp, 4, none⟩ = some (.int .u64 y.a) ∧ w'.cell? ⟨Zp, 5, none⟩ = some (.int .u64 y.p) ∧ w'.cell? ⟨Zp, 6, none⟩ = some (.bool y.fd) ∧ w'.cell? ⟨Zp, 7, none⟩ = some (.int .i64 y.tl) ∧ w'.cell? ⟨Zp, 8, none⟩ = some (.int .i64 y.cy) ∧ w'.cell? ⟨Zq, 0, none⟩ = some (.int .i64 y.l) ∧ w'.cell? ⟨Zq, 1, none⟩ = some (.int .i64 y.j) ∧ w'.cell? ⟨Zq, 2, none⟩ = some (.int .i64 y.c) ∧ w'.cell? ⟨Zq, 3, none⟩ = some (.int .i64 y.m) ∧ w'.cell? ⟨Zq, 4, none⟩ = some (.int .u64 y.a) ∧ w'.cell? ⟨Zq, 5, none⟩ = some (.int .u64 y.p) ∧ w'.cell? ⟨Zq, 6, none⟩ = some (.bool y.fd) ∧ w'.cell? ⟨Zq, 7, none⟩ = some (.int .i64 y.tl) ∧ w'.cell? ⟨Zq, 8, none⟩ = some (.int .i64 y.cy))) (exact ⟨x0, x1, x2, x3, b0, b1, b2, b3, b4, b5, b6, b7, b8, d0, d1, d2, d3, d4, d5, d6, d7, d8⟩)
            (first
              | (go_at_call 13
                 refine (Alike_b HT8.out HN.out).mono ?_
                 rintro e U ⟨rfl, hT, hb⟩
                 have HT9 := Lib.hid hT
                 clear hT
                 have HN9 := Lib.hid (HN8.out.below hb); have HO9 := Lib.hid (HO8.out.below hb); have HX9 := Lib.hid (HX8.out.below hb)
                 clear hb HN8 HO8 HX8 HT8 HN x0 x1 x2 x3 b0 b1 b2 b3 b4 b5 b6 b7 b8 bf d0 d1 d2 d3 d4 d5 d6 d7 d8 df
                 have HT8 := HT9; have HN8 := HN9; have HO8 := HO9; have HX8 := HX9
                 clear HT9 HN9 HO9 HX9
                 obtain ⟨b0, b1, b2, b3, b4, b5, b6, b7, b8, bf⟩ := HN8.out.cells
                 obtain ⟨d0, d1, d2, d3, d4, d5, d6, d7, d8, df⟩ := HO8.out.cells
                 obtain ⟨x0, x1, x2, x3⟩ := HX8.out)
              | (go_at_call 14
                 refine (HB1.out _).mono ?_
                 rintro e U ⟨rfl, hb⟩
                 have HT9 := Lib.hid (HT8.out.below hb)
                 have HN9 := Lib.hid (HN8.out.below hb); have HO9 := Lib.hid (HO8.out.below hb); have HX9 := Lib.hid (HX8.out.below hb)
                 clear hb HN8 HO8 HX8 HT8 HB1 x0 x1 x2 x3 b0 b1 b2 b3 b4 b5 b6 b7 b8 bf d0 d1 d2 d3 d4 d5 d6 d7 d8 df
                 have HT8 := HT9; have HN8 := HN9; have HO8 := HO9; have HX8 := HX9
                 clear HT9 HN9 HO9 HX9
                 obtain ⟨b0, b1, b2, b3, b4, b5, b6, b7, b8, bf⟩ := HN8.out.cells
                 obtain ⟨d0, d1, d2, d3, d4, d5, d6, d7, d8, df⟩ := HO8.out.cells
                 obtain ⟨x0, x1, x2, x3⟩ := HX8.out)
              | (go_at_call 15
                 refine (HB2.out _).mono ?_
                 rintro e U ⟨rfl, hb⟩
                 have HT9 := Lib.hid (HT8.out.below hb)
                 have HN9 := Lib.hid (HN8.out.below hb); have HO9 := Lib.hid (HO8.out.below hb); have HX9 := Lib.hid (HX8.out.below hb)
                 clear hb HN8 HO8 HX8 HT8 HB2 x0 x1 x2 x3 b0 b1 b2 b3 b4 b5 b6 b7 b8 bf d0 d1 d2 d3 d4 d5 d6 d7 d8 df
                 have HT8 := HT9; have HN8 := HN9; have HO8 := HO9; have HX8 := HX9
                 clear HT9 HN9 HO9 HX9
                 obtain ⟨b0, b1, b2, b3, b4, b5, b6, b7, b8, bf⟩ := HN8.out.cells
                 obtain ⟨d0, d1, d2, d3, d4, d5, d6, d7, d8, df⟩ := HO8.out.cells
                 obtain ⟨x0, x1, x2, x3⟩ := HX8.out))
          all_goals
            clear HN8 HO8 HX8 x0 x1 x2 x3 b0 b1 b2 b3 b4 b5 b6 b7 b8 bf d0 d1 d2 d3 d4 d5 d6 d7 d8 df
            go_wp2_with fail
            go_ret
            exact ⟨rfl, belowOn HB.out HT8.out.old⟩
        · have HB3 := Lib.hid (belowOn HB.out hold)
          clear HT3 hold HB hnr HM HX
          obtain ⟨b0, b1, b2, b3, b4, b5, b6, b7, b8, bf⟩ := HM3.out.cells
          go_wp2_with fail
          refine (colNil_c 14 j xc m xa p fd tl cy _).mono ?_
          rintro e W9 ⟨rfl, hW⟩
          have HB9 := Lib.hid (belowOn HB3.out hW); have HM9 := Lib.hid (HM3.out.below hW)
          clear hW HM3 HB3 b0 b1 b2 b3 b4 b5 b6 b7 b8 bf
          obtain ⟨b0, b1, b2, b3, b4, b5, b6, b7, b8, bf⟩ := HM9.out.cells
          have hl9 : w.heap.size + 1 < W9.heap.size := HM9.out.lt
          have hn9 : w.heap.size + 1 ≠ W9.heap.size := by omega
          go_wp2_with fail
          go_ret
          exact ⟨rfl, below_on HB9.out _⟩
  have d20 : decide (20 ≤ l) = false := decide_eq_false h20
  have d14 : (l == 14) = false := by simpa using h14
  have hsw : sweptN l xc = -1 := by unfold sweptN; rw [if_neg (by omega), if_neg h14]
  have HMk : Hid (∀ W, Calls Tryz.prog 5 #[(colV l j xc m xa p fd tl cy)] W fun e w' => e = .returned (.bool (marksL l)) ∧ Below W.heap.size W w') := Lib.hid (fun W => Marks_c l j xc m xa p fd tl cy W)
  have HMr : Hid (∀ W, Calls Tryz.prog 6 #[(colV l j xc m xa p fd tl cy)] W fun e w' => e = .returned (.bool (marksL l)) ∧ Below W.heap.size W w') := Lib.hid (fun W => rMarks_c l j xc m xa p fd tl cy W)
  have HSw : Hid (∀ W, Calls Tryz.prog 7 #[(colV l j xc m xa p fd tl cy)] W fun e w' => e = .returned (.int .i64 (sweptN l xc)) ∧ Below W.heap.size W w') := Lib.hid (fun W => Swept_c l j xc m xa p fd tl cy W)
  rw [hsw] at HSw
  generalize marksL l = mk at *
  have hmk : (mk != mk) = false := by simp
  clear hsw h20 h14
  obtain ⟨a0, a1, a2, a3, a4, a5, a6, a7, a8, af⟩ := HM1.out.cells
  go_wp2_with fail
  have HB := Lib.hid HB1.out.drew; have HX : Hid (BoxAt W1.drew w.heap.size a b c d) := Lib.hid HX1.out; have HM := Lib.hid (HM1.out.other (w' := W1.drew) rfl)
  clear HB1 HX1 HM1 a0 a1 a2 a3 a4 a5 a6 a7 a8 af
  obtain ⟨a0, a1, a2, a3, a4, a5, a6, a7, a8, af⟩ := HM.out.cells
  go_region_held3 ((fun w' => w'.cell? ⟨w.heap.size + 1, 0, none⟩ = some (.int .i64 l) ∧ w'.cell? ⟨w.heap.size + 1, 1, none⟩ = some (.int .i64 j) ∧ w'.cell? ⟨w.heap.size + 1, 2, none⟩ = some (.int .i64 xc) ∧ w'.cell? ⟨w.heap.size + 1, 3, none⟩ = some (.int .i64 m) ∧ w'.cell? ⟨w.heap.size + 1, 4, none⟩ = some (.int .u64 xa) ∧ w'.cell? ⟨w.heap.size + 1, 5, none⟩ = some (.int .u64 p) ∧ w'.cell? ⟨w.heap.size + 1, 6, none⟩ = some (.bool fd) ∧ w'.cell? ⟨w.heap.size + 1, 7, none⟩ = some (.int .i64 tl) ∧ w'.cell? ⟨w.heap.size + 1, 8, none⟩ = some (.int .i64 cy))) (exact ⟨a0, a1, a2, a3, a4, a5, a6, a7, a8⟩)
    (first
      | (go_at_call 5
         refine (HMk.out _).mono ?_
         rintro e V ⟨rfl, hb⟩
         have HB' := Lib.hid (belowOn HB.out hb); have HX' := Lib.hid (HX.out.below hb); have HM' := Lib.hid (HM.out.below hb)
         clear hb HB HX HM HMk a0 a1 a2 a3 a4 a5 a6 a7 a8 af
         have HB := HB'; have HX := HX'; have HM := HM'
         clear HB' HX' HM'
         obtain ⟨a0, a1, a2, a3, a4, a5, a6, a7, a8, af⟩ := HM.out.cells)
      | (go_at_call 6
         refine (HMr.out _).mono ?_
         rintro e V ⟨rfl, hb⟩
         have HB' := Lib.hid (belowOn HB.out hb); have HX' := Lib.hid (HX.out.below hb); have HM' := Lib.hid (HM.out.below hb)
         clear hb HB HX HM HMr a0 a1 a2 a3 a4 a5 a6 a7 a8 af
         have HB := HB'; have HX := HX'; have HM := HM'
         clear HB' HX' HM'
         obtain ⟨a0, a1, a2, a3, a4, a5, a6, a7, a8, af⟩ := HM.out.cells)
      | (go_at_call 7
         refine (HSw.out _).mono ?_
         rintro e V ⟨rfl, hb⟩
         have HB' := Lib.hid (belowOn HB.out hb); have HX' := Lib.hid (HX.out.below hb); have HM' := Lib.hid (HM.out.below hb)
         clear hb HB HX HM HSw a0 a1 a2 a3 a4 a5 a6 a7 a8 af
         have HB := HB'; have HX := HX'; have HM := HM'
         clear HB' HX' HM'
         obtain ⟨a0, a1, a2, a3, a4, a5, a6, a7, a8, af⟩ := HM.out.cells))
  all_goals
    clear hmk d20 d14 a0 a1 a2 a3 a4 a5 a6 a7 a8 af
    have hlt : w.heap.size + 1 < V.heap.size := HM.out.lt
    obtain ⟨x0, x1, x2, x3⟩ := HX.out
    go_wp2_with fail
    refine (Both_any a b c d v0 n c0 f _ (HS.out.below HB.out) ⟨HG.out.1, HG.out.2.1.below HB.out, HG.out.2.2⟩).mono ?_
    rintro e W2 (⟨_, rfl, hW⟩ | ⟨hok, P, rfl, hT⟩)
    · have HB2 := Lib.hid (belowOn HB.out hW)
      have HM2 := Lib.hid (HM.out.below hW)
      clear hW HX x0 x1 x2 x3 HM HB
      obtain ⟨b0, b1, b2, b3, b4, b5, b6, b7, b8, bf⟩ := HM2.out.cells
      go_wp2_with fail
      refine (colNil_c l j xc m xa p fd tl cy _).mono ?_
      rintro e W9 ⟨rfl, hW⟩
      have HB9 := Lib.hid (belowOn HB2.out hW); have HM9 := Lib.hid (HM2.out.below hW)
      clear hW HM2 HB2 b0 b1 b2 b3 b4 b5 b6 b7 b8 bf
      obtain ⟨b0, b1, b2, b3, b4, b5, b6, b7, b8, bf⟩ := HM9.out.cells
      have hl9 : w.heap.size + 1 < W9.heap.size := HM9.out.lt
      have hn9 : w.heap.size + 1 ≠ W9.heap.size := by omega
      go_wp2_with fail
      go_ret
      exact ⟨rfl, below_on HB9.out _⟩
    · have HM2 := Lib.hid (HM.out.below hT.old)
      obtain ⟨b0, b1, b2, b3, b4, b5, b6, b7, b8, bf⟩ := HM2.out.cells
      have HT := Lib.hid hT
      clear hT x0 x1 x2 x3
      go_wp2_with fail
      refine (Far_c ⟨l, j, xc, m, xa, p, fd, tl, cy⟩ _).mono ?_
      rintro e W3 ⟨far, rfl, hW, hnr⟩
      have HT3 := Lib.hid (HT.out.below hW)
      have HM3 := Lib.hid (HM2.out.below hW)
      have hold : Below V.heap.size V W3 := HT3.out.old
      clear hW HT HM2 b0 b1 b2 b3 b4 b5 b6 b7 b8 bf
      cases far
      · obtain ⟨nj, nc, nm, nt, ny⟩ := (hnr rfl).all
        clear hnr
        unfold nearN at nj nc nm nt ny
        dsimp only at nj nc nm nt ny
        have hu : Dy.U ⟨f, 0, 0, 0, 0, 0⟩ := HG.out.2.2.1
        have hC : CfOK ⟨n, a, b, c, d⟩ := ⟨hok.2.1, hok.2.2⟩
        have hn20 : n ≤ 20000 := by have := hok.2.1.prod; have h1 := hok.2.2; have h2 := hok.2.1; unfold Right at h2; omega
        have ha : -1000000 ≤ a ∧ a ≤ 1000000 := by have h2 := hok.2.1; unfold Right at h2; omega
        have hS1 := HS.out.below HB.out
        have HLd : Hid (Calls Tryz.prog 11 #[.pointer (some ⟨P.H, 0, none⟩), .int .i64 0] W3 (HP W3 P.H P.A P.G ⟨n, a, b, c, d⟩ (Dy.act ⟨n, a, b, c, d⟩ ⟨f, 0, 0, 0, 0, 0⟩ 1 0 0 0) (.int .u64 (z5 n 1 0 (f (0 : Int).toNat))))) := Lib.hid (hLoad_c (w := W3) HT3.out.hand hu 0)
        have hA := fun W (h : Two V W P ⟨n, a, b, c, d⟩ (Dy.act ⟨n, a, b, c, d⟩ ⟨f, 0, 0, 0, 0, 0⟩ 1 0 0 0) ⟨f, 0, 0, 0, 0, 0⟩) => col_c (w := W) (C := ⟨n, a, b, c, d⟩) h.hand (hu.act _ 1 0 u64_zero u64_zero) (hS1.below h.old) hok.2.1 hC.pos ⟨l, j, xc, m, xa, p, fd, tl, cy⟩ (HU.out) (by dsimp only; omega)
        have hR := fun (s2 : Dy) W (h : Two V W P ⟨n, a, b, c, d⟩ s2 ⟨f, 0, 0, 0, 0, 0⟩) => rcol_c (w := W) (C := ⟨n, a, b, c, d⟩) (s := ⟨f, 0, 0, 0, 0, 0⟩) h.ref h.ltR hok.2.1 hu ⟨l, j, xc, m, xa, p, fd, tl, cy⟩ HU.out (by dsimp only; omega)
        rw [colS_load] at hA
        generalize Dy.act ⟨n, a, b, c, d⟩ ⟨f, 0, 0, 0, 0, 0⟩ 1 0 0 0 = s1 at *
        generalize hst : colS ⟨n, a, b, c, d⟩ ⟨f, 0, 0, 0, 0, 0⟩ ⟨l, j, xc, m, xa, p, fd, tl, cy⟩ = r at *
        obtain ⟨s', y, r0⟩ := r
        dsimp only at hA hR
        have HA := Lib.hid hA; have HR := Lib.hid hR; have HN := Lib.hid hn20
        have HB1 : Hid (∀ W, Calls Tryz.prog 14 #[.agg #[.int .i64 a, .int .i64 b, .int .i64 c, .int .i64 d]] W fun e w' => e = .returned (colV 1 0 0 0 0 0 false (a - 1) 0) ∧ Below W.heap.size W w') := Lib.hid (fun W => Begin19_c a b c d ha W)
        have HB2 : Hid (∀ W, Calls Tryz.prog 15 #[.agg #[.int .i64 a, .int .i64 b, .int .i64 c, .int .i64 d]] W fun e w' => e = .returned (colV 1 0 0 0 0 0 false (a - 1) 0) ∧ Below W.heap.size W w') := Lib.hid (fun W => rBegin19_c a b c d ha W)
        clear hA hR hn20 hst hu hC hold hok HG HS HU hS1 nj nc nm nt ny
        go_wp2_with fail
        refine HLd.out.mono ?_
        rintro e W4 hp
        obtain ⟨rfl, hT⟩ := Two.step HT3.out hp
        have HT4 := Lib.hid hT
        have HM4 : Hid (Col9 _ (w.heap.size + 1) l j xc m xa p fd tl cy) := Lib.hid (HM.out.below hT.old)
        clear hp hT HT3 HM3 HLd
        obtain ⟨b0, b1, b2, b3, b4, b5, b6, b7, b8, bf⟩ := HM4.out.cells
        go_wp2_with fail
        refine (HA.out _ HT4.out).mono ?_
        rintro e W5 hp
        obtain ⟨rfl, hT⟩ := Two.step HT4.out hp
        clear hp
        have HT5 := Lib.hid (hT.below (below_new W5 (.cells #[.int .i64 y.l, .int .i64 y.j, .int .i64 y.c, .int .i64 y.m, .int .u64 y.a, .int .u64 y.p, .bool y.fd, .int .i64 y.tl, .int .i64 y.cy] 28)))
        have HM5 : Hid (Col9 _ (w.heap.size + 1) l j xc m xa p fd tl cy) := Lib.hid (HM.out.below HT5.out.old)
        have HN5 := Lib.hid (Col9.new W5 y.l y.j y.c y.m y.a y.p y.fd y.tl y.cy)
        have HP5 := Lib.hid (hT.apart (Nat.le_refl W5.heap.size))
        clear hT HT4 HM4 HA b0 b1 b2 b3 b4 b5 b6 b7 b8 bf
        obtain ⟨b0, b1, b2, b3, b4, b5, b6, b7, b8, bf⟩ := HM5.out.cells
        go_wp2_with fail
        refine (HR.out _ _ HT5.out).mono ?_
        rintro e W6 hp
        have hN6 := HN5.out.other (Pl.sav (.inr hp.2.2) HN5.out.lt HP5.out)
        obtain ⟨rfl, hT⟩ := Two.rstep HT5.out hp
        have HT7 := Lib.hid (hT.below (below_new W6 (.cells #[.int .i64 y.l, .int .i64 y.j, .int .i64 y.c, .int .i64 y.m, .int .u64 y.a, .int .u64 y.p, .bool y.fd, .int .i64 y.tl, .int .i64 y.cy] 28)))
        have HN7 := Lib.hid (hN6.below (below_new W6 (.cells #[.int .i64 y.l, .int .i64 y.j, .int .i64 y.c, .int .i64 y.m, .int .u64 y.a, .int .u64 y.p, .bool y.fd, .int .i64 y.tl, .int .i64 y.cy] 28)))
        have HO7 := Lib.hid (Col9.new W6 y.l y.j y.c y.m y.a y.p y.fd y.tl y.cy)
        have HX7 := Lib.hid (HX.out.below HT7.out.old)
        clear hp hN6 hT HT5 HM5 HN5 HP5 HR HX HM b0 b1 b2 b3 b4 b5 b6 b7 b8 bf
        generalize hZp : W5.heap.size = Zp at *
        clear hZp
        go_wp2_with fail
        generalize W6.alloc (.cells #[.int .i64 y.l, .int .i64 y.j, .int .i64 y.c, .int .i64 y.m, .int .u64 y.a, .int .u64 y.p, .bool y.fd, .int .i64 y.tl, .int .i64 y.cy] 28) = W7 at *
        generalize W6.heap.size = Zq at *
        obtain ⟨b0, b1, b2, b3, b4, b5, b6, b7, b8, bf⟩ := HN7.out.cells
        obtain ⟨d0, d1, d2, d3, d4, d5, d6, d7, d8, df⟩ := HO7.out.cells
        obtain ⟨x0, x1, x2, x3⟩ := HX7.out
        have HT8 := Lib.hid HT7.out.drew; have HN8 := Lib.hid (HN7.out.other (w' := W7.drew) rfl); have HO8 := Lib.hid (HO7.out.other (w' := W7.drew) rfl); have HX8 : Hid (BoxAt W7.drew w.heap.size a b c d) := Lib.hid HX7.out
        clear HT7 HN7 HO7 HX7
        go_region_held3 ((fun w' => w'.cell? ⟨w.heap.size, 0, none⟩ = some (.int .i64 a) ∧ w'.cell? ⟨w.heap.size, 1, none⟩ = some (.int .i64 b) ∧ w'.cell? ⟨w.heap.size, 2, none⟩ = some (.int .i64 c) ∧ w'.cell? ⟨w.heap.size, 3, none⟩ = some (.int .i64 d) ∧ w'.cell? ⟨Zp, 0, none⟩ = some (.int .i64 y.l) ∧ w'.cell? ⟨Zp, 1, none⟩ = some (.int .i64 y.j) ∧ w'.cell? ⟨Zp, 2, none⟩ = some (.int .i64 y.c) ∧ w'.cell? ⟨Zp, 3, none⟩ = some (.int .i64 y.m) ∧ w'.cell? ⟨Zp, 4, none⟩ = some (.int .u64 y.a) ∧ w'.cell? ⟨Zp, 5, none⟩ = some (.int .u64 y.p) ∧ w'.cell? ⟨Zp, 6, none⟩ = some (.bool y.fd) ∧ w'.cell? ⟨Zp, 7, none⟩ = some (.int .i64 y.tl) ∧ w'.cell? ⟨Zp, 8, none⟩ = some (.int .i64 y.cy) ∧ w'.cell? ⟨Zq, 0, none⟩ = some (.int .i64 y.l) ∧ w'.cell? ⟨Zq, 1, none⟩ = some (.int .i64 y.j) ∧ w'.cell? ⟨Zq, 2, none⟩ = some (.int .i64 y.c) ∧ w'.cell? ⟨Zq, 3, none⟩ = some (.int .i64 y.m) ∧ w'.cell? ⟨Zq, 4, none⟩ = some (.int .u64 y.a) ∧ w'.cell? ⟨Zq, 5, none⟩ = some (.int .u64 y.p) ∧ w'.cell? ⟨Zq, 6, none⟩ = some (.bool y.fd) ∧ w'.cell? ⟨Zq, 7, none⟩ = some (.int .i64 y.tl) ∧ w'.cell? ⟨Zq, 8, none⟩ = some (.int .i64 y.cy))) (exact ⟨x0, x1, x2, x3, b0, b1, b2, b3, b4, b5, b6, b7, b8, d0, d1, d2, d3, d4, d5, d6, d7, d8⟩)
          (first
            | (go_at_call 13
               refine (Alike_b HT8.out HN.out).mono ?_
               rintro e U ⟨rfl, hT, hb⟩
               have HT9 := Lib.hid hT
               clear hT
               have HN9 := Lib.hid (HN8.out.below hb); have HO9 := Lib.hid (HO8.out.below hb); have HX9 := Lib.hid (HX8.out.below hb)
               clear hb HN8 HO8 HX8 HT8 HN x0 x1 x2 x3 b0 b1 b2 b3 b4 b5 b6 b7 b8 bf d0 d1 d2 d3 d4 d5 d6 d7 d8 df
               have HT8 := HT9; have HN8 := HN9; have HO8 := HO9; have HX8 := HX9
               clear HT9 HN9 HO9 HX9
               obtain ⟨b0, b1, b2, b3, b4, b5, b6, b7, b8, bf⟩ := HN8.out.cells
               obtain ⟨d0, d1, d2, d3, d4, d5, d6, d7, d8, df⟩ := HO8.out.cells
               obtain ⟨x0, x1, x2, x3⟩ := HX8.out)
            | (go_at_call 14
               refine (HB1.out _).mono ?_
               rintro e U ⟨rfl, hb⟩
               have HT9 := Lib.hid (HT8.out.below hb)
               have HN9 := Lib.hid (HN8.out.below hb); have HO9 := Lib.hid (HO8.out.below hb); have HX9 := Lib.hid (HX8.out.below hb)
               clear hb HN8 HO8 HX8 HT8 HB1 x0 x1 x2 x3 b0 b1 b2 b3 b4 b5 b6 b7 b8 bf d0 d1 d2 d3 d4 d5 d6 d7 d8 df
               have HT8 := HT9; have HN8 := HN9; have HO8 := HO9; have HX8 := HX9
               clear HT9 HN9 HO9 HX9
               obtain ⟨b0, b1, b2, b3, b4, b5, b6, b7, b8, bf⟩ := HN8.out.cells
               obtain ⟨d0, d1, d2, d3, d4, d5, d6, d7, d8, df⟩ := HO8.out.cells
               obtain ⟨x0, x1, x2, x3⟩ := HX8.out)
            | (go_at_call 15
               refine (HB2.out _).mono ?_
               rintro e U ⟨rfl, hb⟩
               have HT9 := Lib.hid (HT8.out.below hb)
               have HN9 := Lib.hid (HN8.out.below hb); have HO9 := Lib.hid (HO8.out.below hb); have HX9 := Lib.hid (HX8.out.below hb)
               clear hb HN8 HO8 HX8 HT8 HB2 x0 x1 x2 x3 b0 b1 b2 b3 b4 b5 b6 b7 b8 bf d0 d1 d2 d3 d4 d5 d6 d7 d8 df
               have HT8 := HT9; have HN8 := HN9; have HO8 := HO9; have HX8 := HX9
               clear HT9 HN9 HO9 HX9
               obtain ⟨b0, b1, b2, b3, b4, b5, b6, b7, b8, bf⟩ := HN8.out.cells
               obtain ⟨d0, d1, d2, d3, d4, d5, d6, d7, d8, df⟩ := HO8.out.cells
               obtain ⟨x0, x1, x2, x3⟩ := HX8.out))
        all_goals
          clear HN8 HO8 HX8 x0 x1 x2 x3 b0 b1 b2 b3 b4 b5 b6 b7 b8 bf d0 d1 d2 d3 d4 d5 d6 d7 d8 df
          go_wp2_with fail
          go_ret
          exact ⟨rfl, belowOn HB.out HT8.out.old⟩
      · have HB3 := Lib.hid (belowOn HB.out hold)
        clear HT3 hold HB hnr HM HX
        obtain ⟨b0, b1, b2, b3, b4, b5, b6, b7, b8, bf⟩ := HM3.out.cells
        go_wp2_with fail
        refine (colNil_c l j xc m xa p fd tl cy _).mono ?_
        rintro e W9 ⟨rfl, hW⟩
        have HB9 := Lib.hid (belowOn HB3.out hW); have HM9 := Lib.hid (HM3.out.below hW)
        clear hW HM3 HB3 b0 b1 b2 b3 b4 b5 b6 b7 b8 bf
        obtain ⟨b0, b1, b2, b3, b4, b5, b6, b7, b8, bf⟩ := HM9.out.cells
        have hl9 : w.heap.size + 1 < W9.heap.size := HM9.out.lt
        have hn9 : w.heap.size + 1 ≠ W9.heap.size := by omega
        go_wp2_with fail
        go_ret
        exact ⟨rfl, below_on HB9.out _⟩
end Go.Proofs.YthdcapkchjamoaaGreatDoor
