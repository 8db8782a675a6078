/- Laid together: WBeginB, WPickZ, WRunP, WRun, WClone, WNewP, WNewN, WNew, WAwake. -/
import Derived.Test.YtbpooljohjkbjaaGreatDoorM1
import Derived.Test.YtbpooljohjkbjaaGreatDoorM14
import Derived.Test.YtbpooljohjkbjaaGreatDoorM4
import Derived.Test.YtbpooljohjkbjaaGreatDoorM5
import Derived.Deep.Cut
import Derived.Test.YtbpooljohjkbjaaGreatDoorHandNew
import Derived.Test.YtbpooljohjkbjaaGreatDoorM13
/- begin of an operation that is right. -/
namespace Go.Proofs.YtbpooljohjkbjaaGreatDoor
open Go Go.RowKit
set_option maxRecDepth 100000
attribute [local go_sem ↓] Go.wp_at_zero Go.wp_at_succ
set_option maxHeartbeats 12800000 in
theorem begin_ok {w : World} {q : WoK} {C : Cf} {S : Ws} (h : WoAt w q C S) {m : Nat} (hm : m < q.n) {ok ox oy oz : Int} {l : List Opn} (hl : S.lf m = ⟨ok, ox, oy, oz⟩ :: l)  (hck : checkF C.a C.b C.c C.d ok ox oy oz = 0) {ran : Bool} {k1 i1 x1 y1 o1 : Int} {nts : List Nt} {S' : Ws} (hst : ∀ W T, WoAt W q C ⟨S.f, upn S.mu m ⟨1, ok, ox, oy, oz, 0, 0, 0, 0, 0, 0, 0, 0⟩, upn S.lf m l, S.x⟩ → NtR W T (.slice (some ⟨T, 0, none⟩) 1 1) [(⟨(m : Int), 1, ok, ox, oy, oz, 0⟩ : Nt)] → q.hi ≤ T → T ≤ W.heap.size → Calls Tryz.prog 32 #[.pointer (some ⟨q.B, 0, none⟩), .int .i64 (m : Int), .slice (some ⟨T, 0, none⟩) 1 1] W fun e w' => ∃ v, e = .returned v ∧ EvV T w' v ⟨ran, k1, i1, x1, y1, o1, nts⟩ ∧ WoAt w' q C S' ∧ Sav (Ib q T) W w') :
    Calls Tryz.prog 34 #[.pointer (some ⟨q.B, 0, none⟩), .int .i64 (m : Int)] w fun e w' => ∃ v, e = .returned v ∧ EvV w.heap.size w' v ⟨ran, k1, i1, x1, y1, o1, nts⟩ ∧ WoAt w' q C S' ∧ Sav (Ib q w.heap.size) w w' := by
  have Hck := Lib.hid hck
  have HX := Lib.hid hst
  clear hst
  clear hck
  obtain ⟨s, hs, h0⟩ := St0.start (nv := .slice none 0 0) (L := []) h (World.ownsRow_nil _ _ _ _) h.hi (Nat.le_refl _)
  obtain ⟨b, off, cap, hv, hc, ho, _, _⟩ := h0.wo.left hm hl
  obtain ⟨p0, p1, p2, p3⟩ := ho
  have HB0 := Lib.hid h0
  have hm0 : (0 : Int) ≤ (m : Int) := by omega
  have hmn : (m : Int) < (q.n : Int) := by omega
  obtain ⟨b0, b1, _⟩ := h0.wo.bk.cells
  obtain ⟨N, hN⟩ : ∃ N, l.length + 1 = N := ⟨_, rfl⟩
  rw [hN] at hv hc
  have hN0 : 0 < N := by omega
  have hN1 : (0 : Int) < (N : Int) := by omega
  have Hhl := Lib.hid hl; have HhN := Lib.hid hN; have Hhm := Lib.hid hm
  clear h h0 hs hc hl hN hm
  go_enter Tryz.func34, Tryz.ntmps34
  go_upto_region 1 with fail
  generalize w.alloc (.cells #[.bool false, .int .i64 0, .int .i64 0, .int .u64 0, .int .u64 0, .int .u64 0, .slice none 0 0] 41) = w1 at *
  go_upto_region 3 with fail
  have HB1 := Lib.hid (HB0.out.below (below_new w1 (.cells #[.int .i64 ok, .int .i64 ox, .int .i64 oy, .int .i64 oz] 58)))
  have HO1 := Lib.hid (op_new w1 ⟨ok, ox, oy, oz⟩)
  have hOB : w1.heap.size ≠ q.R := by have := HB0.out.ev.lt; have := HB0.out.wo.ne.r.2; have := HB0.out.hb; omega
  have hOE : w1.heap.size ≠ w.heap.size := by have := HB0.out.ev.lt; omega
  clear b0 b1 p0 p1 p2 p3 hv hN0 hN1 HB0
  generalize (w1.alloc (.cells #[.int .i64 ok, .int .i64 ox, .int .i64 oy, .int .i64 oz] 58)) = w2 at *
  generalize w1.heap.size = O at *
  obtain ⟨b, off, cap, hv, hc, _, hsl, hsl0⟩ := HB1.out.wo.left Hhm.out Hhl.out
  rw [HhN.out] at hv hc
  have HSl := Lib.hid hsl; have HSl0 := Lib.hid hsl0
  have rf : ∀ j, w2.frozen? ⟨q.R, j, none⟩ = false := by obtain ⟨lv, hmt, _⟩ := HB1.out.wo.mt; exact fun j => World.rowIs.frozen hmt j
  obtain ⟨p0, p1, p2, p3⟩ := HO1.out
  clear hsl hsl0
  by_cases hc1 : cap = 1
  · subst hc1
    have hN9 : N = 1 := by have := HhN.out; omega
    subst hN9
    have hl0 : l.length = 0 := by have := HhN.out; omega
    have HV' := HSl0.out rfl
    rw [hl0] at HV'
    have HV := Lib.hid HV'
    clear HV' hl0
    go_upto_region 4 with fail
    have HB2 := Lib.hid (HB1.out.setL m HV.out)
    have HO2 := Lib.hid (HO1.out.other (V := (w2.setCell ⟨q.R, m * 14 + 13, none⟩ (.slice (some ⟨b, off, none⟩) 0 0))) (Below.heap_setCell _ _ _ _ hOB))
    clear HB1 HO1 HV HSl HSl0 hv hc rf p0 p1 p2 p3
    generalize (w2.setCell ⟨q.R, m * 14 + 13, none⟩ (.slice (some ⟨b, off, none⟩) 0 0)) = w3 at *
    obtain ⟨p0, p1, p2, p3⟩ := HO2.out
    go_upto_region 5 with fail
    have HB3 := Lib.hid (HB2.out.below (below_new w3 (.cells #[.int .i64 (m : Int), .int .i64 1, .int .i64 ok, .int .i64 ox, .int .i64 oy, .int .i64 oz, .int .i64 0] 68)))
    have HO3 := Lib.hid (HO2.out.other (V := (w3.alloc (.cells #[.int .i64 (m : Int), .int .i64 1, .int .i64 ok, .int .i64 ox, .int .i64 oy, .int .i64 oz, .int .i64 0] 68))) ((below_new w3 _).block _ HO2.out.lt))
    have HN1 := Lib.hid (nt_new w3 (⟨(m : Int), 1, ok, ox, oy, oz, 0⟩ : Nt))
    have hNR : w3.heap.size ≠ q.R := by have := HB2.out.ev.lt; have := HB2.out.wo.ne.r.2; have := HB2.out.hb; omega
    clear HB2 HO2 p0 p1 p2 p3
    generalize (w3.alloc (.cells #[.int .i64 (m : Int), .int .i64 1, .int .i64 ok, .int .i64 ox, .int .i64 oy, .int .i64 oz, .int .i64 0] 68)) = w4 at *
    generalize w3.heap.size = N1 at *
    have HB4 := Lib.hid HB3.out.drew
    have HO4 := Lib.hid (HO3.out.other (V := w4.drew) rfl)
    have HN2 := Lib.hid (HN1.out.other (V := w4.drew) rfl)
    clear HB3 HO3 HN1
    obtain ⟨p0, p1, p2, p3⟩ := HO4.out
    obtain ⟨b0, _⟩ := HB4.out.wo.bk.cells
    obtain ⟨_, ⟨m1, m2, m3, m4⟩, _⟩ := HB4.out.ha.cells
    refine wp_region_held_drew (S := (fun w' => w'.cell? ⟨q.B, 0, none⟩ = some (.pointer (some ⟨q.H, 0, none⟩)) ∧ w'.cell? ⟨q.H, 1, none⟩ = some (.int .i64 C.a) ∧ w'.cell? ⟨q.H, 2, none⟩ = some (.int .i64 C.b) ∧ w'.cell? ⟨q.H, 3, none⟩ = some (.int .i64 C.c) ∧ w'.cell? ⟨q.H, 4, none⟩ = some (.int .i64 C.d) ∧ w'.cell? ⟨O, 0, none⟩ = some (.int .i64 ok) ∧ w'.cell? ⟨O, 1, none⟩ = some (.int .i64 ox) ∧ w'.cell? ⟨O, 2, none⟩ = some (.int .i64 oy) ∧ w'.cell? ⟨O, 3, none⟩ = some (.int .i64 oz))) (by kernel_rfl) ?_ (fun hHeld => ?_)
    · exact ⟨b0, m1, m2, m3, m4, p0, p1, p2, p3⟩
    refine tk 0 rfl hHeld ?_
    refine tk 1 rfl hHeld ?_
    refine tk 2 rfl hHeld ?_
    refine tk 3 rfl hHeld ?_
    refine tk 4 rfl hHeld ?_
    refine tk 5 rfl hHeld ?_
    refine tk 6 rfl hHeld ?_
    refine tk 7 rfl hHeld ?_
    refine tk 8 rfl hHeld ?_
    refine wpAnyH_ready (rs := [9]) (by kernel_rfl) (by simp) ?_
    refine AllReadyH.cons (o := _) rfl (fun K hK => ?_) AllReadyH.nil
    go_simp
    refine (opCheck_c C.a C.b C.c C.d ok ox oy oz _ HB4.out.wo.env.1 HB4.out.wo.env.2).mono ?_
    rintro e V5 ⟨rfl, hb⟩
    have HB5 := Lib.hid (HB4.out.below hb)
    have HO5 := Lib.hid (HO4.out.other (hb.block _ HO4.out.lt))
    have HN3 := Lib.hid (HN2.out.other (hb.block _ (lt_of_cell HN2.out.1)))
    clear hb HB4 HO4 HN2 hHeld b0 m1 m2 m3 m4 p0 p1 p2 p3
    obtain ⟨p0, p1, p2, p3⟩ := HO5.out
    obtain ⟨b0, _⟩ := HB5.out.wo.bk.cells
    obtain ⟨_, ⟨m1, m2, m3, m4⟩, _⟩ := HB5.out.ha.cells
    refine hK.out _ _ ?_ (fun hHeld => ?_)
    · exact ⟨b0, m1, m2, m3, m4, p0, p1, p2, p3⟩
    clear hK K
    try simp only [Act.put, List.setIfInBounds_toArray, List.set_cons_zero, List.set_cons_succ]
    refine tk 10 rfl hHeld ?_
    refine wpAnyH_done (by kernel_rfl) ?_ _
    clear hHeld b0 m1 m2 m3 m4
    have gck := Hck.out
    rw [gck]
    clear gck
    go_upto_region 8 with fail
    go_wp2_with fail
    refine (gBegin_c ok ox oy oz _).mono ?_
    rintro e V8 ⟨rfl, hb⟩
    have HB8 := Lib.hid (HB5.out.below hb)
    have HN4 := Lib.hid (HN3.out.other (hb.block _ (lt_of_cell HN3.out.1)))
    clear hb HB5 HO5 HN3 p0 p1 p2 p3
    obtain ⟨_, s1, s2, s3, s4, s5, s6, s7, s8, s9, s10, s11, s12, s13⟩ := HB8.out.wo.stS Hhm.out rfl
    have rf : ∀ j, V8.frozen? ⟨q.R, j, none⟩ = false := by obtain ⟨lv, hmt, _⟩ := HB8.out.wo.mt; exact fun j => World.rowIs.frozen hmt j
    have HM' := HB8.out.putM m ⟨1, ok, ox, oy, oz, 0, 0, 0, 0, 0, 0, 0, 0⟩
    dsimp only [pW14] at HM'
    have HM := Lib.hid HM'
    clear HM'
    have HN5' := HN4.out.other (V := pW14 V8 q.R (m * 14) ⟨1, ok, ox, oy, oz, 0, 0, 0, 0, 0, 0, 0, 0⟩) (heap_pW14 V8 q.R _ _ hNR)
    dsimp only [pW14] at HN5'
    have HN5 := Lib.hid HN5'
    clear HN5' HB8 HN4
    go_upto_region 9 with fail
    clear s1 s2 s3 s4 s5 s6 s7 s8 s9 s10 s11 s12 s13 rf
    generalize (((((((((((((V8.setCell ⟨q.R, m * 14, none⟩ (.int .i64 1)).setCell ⟨q.R, m * 14 + 1, none⟩ (.int .i64 ok)).setCell ⟨q.R, m * 14 + 2, none⟩ (.int .i64 ox)).setCell ⟨q.R, m * 14 + 3, none⟩ (.int .i64 oy)).setCell ⟨q.R, m * 14 + 4, none⟩ (.int .i64 oz)).setCell ⟨q.R, m * 14 + 5, none⟩ (.int .u64 0)).setCell ⟨q.R, m * 14 + 6, none⟩ (.int .u64 0)).setCell ⟨q.R, m * 14 + 7, none⟩ (.int .u64 0)).setCell ⟨q.R, m * 14 + 8, none⟩ (.int .u64 0)).setCell ⟨q.R, m * 14 + 9, none⟩ (.int .u64 0)).setCell ⟨q.R, m * 14 + 10, none⟩ (.int .u64 0)).setCell ⟨q.R, m * 14 + 11, none⟩ (.int .i64 0)).setCell ⟨q.R, m * 14 + 12, none⟩ (.int .i64 0)) = w8 at *
    obtain ⟨n0, n1, n2, n3, n4, n5, n6⟩ := HN5.out
    dsimp only at n0 n1 n2 n3 n4 n5 n6
    have HB9 := Lib.hid (HM.out.below (below_new w8 (.cells #[.int .i64 (m : Int), .int .i64 1, .int .i64 ok, .int .i64 ox, .int .i64 oy, .int .i64 oz, .int .i64 0] 68)))
    have HRow := Lib.hid (nt_row w8 (⟨(m : Int), 1, ok, ox, oy, oz, 0⟩ : Nt))
    have hTs : w8.heap.size ≤ (w8.alloc (.cells #[.int .i64 (m : Int), .int .i64 1, .int .i64 ok, .int .i64 ox, .int .i64 oy, .int .i64 oz, .int .i64 0] 68)).heap.size := by simp
    have hTh : q.hi ≤ w8.heap.size := by have := HM.out.wo.hi; omega
    have hT2 : w.heap.size < w8.heap.size := HM.out.ev.lt
    clear HM HN5
    go_wp2_with fail
    clear n0 n1 n2 n3 n4 n5 n6
    generalize (w8.alloc (.cells #[.int .i64 (m : Int), .int .i64 1, .int .i64 ok, .int .i64 ox, .int .i64 oy, .int .i64 oz, .int .i64 0] 68)) = w9 at *
    generalize w8.heap.size = T at *
    refine (HX.out w9 T HB9.out.wo HRow.out hTh hTs).mono ?_
    rintro e V ⟨v, rfl, ⟨⟨nv, rfl, hnt, hno⟩, hWo, hSv⟩⟩
    obtain ⟨an, cn, rfl, _⟩ := id hnt
    have HR' := ev_ret' HB9.out hT2 hWo ⟨_, rfl, hnt, hno⟩ hSv
    obtain ⟨v0, v1, v2, v3, v4, v5, v6, ef⟩ := HR'.1.cells
    dsimp only [putE] at HR'
    have HR := Lib.hid HR'
    clear HR' hnt hno hWo hSv HB9 HRow
    go_wp2_with fail
    obtain ⟨e0, e1, e2, e3, e4, e5, e6, _⟩ := HR.out.2.1.cells
    refine bodyPost_ret (v := .agg #[.bool ran, .int .i64 k1, .int .i64 i1, .int .u64 x1, .int .u64 y1, .int .u64 o1, .slice an nts.length cn]) (by simp [results, Tryz.f34, go_sem, e0, e1, e2, e3, e4, e5, e6]) rfl ?_
    exact ⟨_, rfl, HR.out.2.2.1, HR.out.2.2.2.1, HR.out.2.2.2.2⟩
  · have k1' : 0 < cap := by have := HhN.out; omega
    have k2 : (N : Int) ≤ (cap : Int) := by omega
    have k3 : (1 : Int) ≤ (N : Int) := by have := HhN.out; omega
    have k4 : ¬ (cap : Int) = 1 := by omega
    have k5 : (0 : Int) ≤ (N : Int) := by omega
    have HV' := HSl.out
    rw [show l.length = N - 1 by have := HhN.out; omega] at HV'
    have HV := Lib.hid HV'
    clear HV'
    go_upto_region 4 with fail
    clear k1' k2 k3 k4 k5 hc1
    have HB2 := Lib.hid (HB1.out.setL m HV.out)
    have HO2 := Lib.hid (HO1.out.other (V := (w2.setCell ⟨q.R, m * 14 + 13, none⟩ (.slice (some ⟨b, off + 4, none⟩) (N - 1) (cap - 1)))) (Below.heap_setCell _ _ _ _ hOB))
    clear HB1 HO1 HV HSl HSl0 hv hc rf p0 p1 p2 p3
    generalize (w2.setCell ⟨q.R, m * 14 + 13, none⟩ (.slice (some ⟨b, off + 4, none⟩) (N - 1) (cap - 1))) = w3 at *
    obtain ⟨p0, p1, p2, p3⟩ := HO2.out
    go_upto_region 5 with fail
    have HB3 := Lib.hid (HB2.out.below (below_new w3 (.cells #[.int .i64 (m : Int), .int .i64 1, .int .i64 ok, .int .i64 ox, .int .i64 oy, .int .i64 oz, .int .i64 0] 68)))
    have HO3 := Lib.hid (HO2.out.other (V := (w3.alloc (.cells #[.int .i64 (m : Int), .int .i64 1, .int .i64 ok, .int .i64 ox, .int .i64 oy, .int .i64 oz, .int .i64 0] 68))) ((below_new w3 _).block _ HO2.out.lt))
    have HN1 := Lib.hid (nt_new w3 (⟨(m : Int), 1, ok, ox, oy, oz, 0⟩ : Nt))
    have hNR : w3.heap.size ≠ q.R := by have := HB2.out.ev.lt; have := HB2.out.wo.ne.r.2; have := HB2.out.hb; omega
    clear HB2 HO2 p0 p1 p2 p3
    generalize (w3.alloc (.cells #[.int .i64 (m : Int), .int .i64 1, .int .i64 ok, .int .i64 ox, .int .i64 oy, .int .i64 oz, .int .i64 0] 68)) = w4 at *
    generalize w3.heap.size = N1 at *
    have HB4 := Lib.hid HB3.out.drew
    have HO4 := Lib.hid (HO3.out.other (V := w4.drew) rfl)
    have HN2 := Lib.hid (HN1.out.other (V := w4.drew) rfl)
    clear HB3 HO3 HN1
    obtain ⟨p0, p1, p2, p3⟩ := HO4.out
    obtain ⟨b0, _⟩ := HB4.out.wo.bk.cells
    obtain ⟨_, ⟨m1, m2, m3, m4⟩, _⟩ := HB4.out.ha.cells
    refine wp_region_held_drew (S := (fun w' => w'.cell? ⟨q.B, 0, none⟩ = some (.pointer (some ⟨q.H, 0, none⟩)) ∧ w'.cell? ⟨q.H, 1, none⟩ = some (.int .i64 C.a) ∧ w'.cell? ⟨q.H, 2, none⟩ = some (.int .i64 C.b) ∧ w'.cell? ⟨q.H, 3, none⟩ = some (.int .i64 C.c) ∧ w'.cell? ⟨q.H, 4, none⟩ = some (.int .i64 C.d) ∧ w'.cell? ⟨O, 0, none⟩ = some (.int .i64 ok) ∧ w'.cell? ⟨O, 1, none⟩ = some (.int .i64 ox) ∧ w'.cell? ⟨O, 2, none⟩ = some (.int .i64 oy) ∧ w'.cell? ⟨O, 3, none⟩ = some (.int .i64 oz))) (by kernel_rfl) ?_ (fun hHeld => ?_)
    · exact ⟨b0, m1, m2, m3, m4, p0, p1, p2, p3⟩
    refine tk 0 rfl hHeld ?_
    refine tk 1 rfl hHeld ?_
    refine tk 2 rfl hHeld ?_
    refine tk 3 rfl hHeld ?_
    refine tk 4 rfl hHeld ?_
    refine tk 5 rfl hHeld ?_
    refine tk 6 rfl hHeld ?_
    refine tk 7 rfl hHeld ?_
    refine tk 8 rfl hHeld ?_
    refine wpAnyH_ready (rs := [9]) (by kernel_rfl) (by simp) ?_
    refine AllReadyH.cons (o := _) rfl (fun K hK => ?_) AllReadyH.nil
    go_simp
    refine (opCheck_c C.a C.b C.c C.d ok ox oy oz _ HB4.out.wo.env.1 HB4.out.wo.env.2).mono ?_
    rintro e V5 ⟨rfl, hb⟩
    have HB5 := Lib.hid (HB4.out.below hb)
    have HO5 := Lib.hid (HO4.out.other (hb.block _ HO4.out.lt))
    have HN3 := Lib.hid (HN2.out.other (hb.block _ (lt_of_cell HN2.out.1)))
    clear hb HB4 HO4 HN2 hHeld b0 m1 m2 m3 m4 p0 p1 p2 p3
    obtain ⟨p0, p1, p2, p3⟩ := HO5.out
    obtain ⟨b0, _⟩ := HB5.out.wo.bk.cells
    obtain ⟨_, ⟨m1, m2, m3, m4⟩, _⟩ := HB5.out.ha.cells
    refine hK.out _ _ ?_ (fun hHeld => ?_)
    · exact ⟨b0, m1, m2, m3, m4, p0, p1, p2, p3⟩
    clear hK K
    try simp only [Act.put, List.setIfInBounds_toArray, List.set_cons_zero, List.set_cons_succ]
    refine tk 10 rfl hHeld ?_
    refine wpAnyH_done (by kernel_rfl) ?_ _
    clear hHeld b0 m1 m2 m3 m4
    have gck := Hck.out
    rw [gck]
    clear gck
    go_upto_region 8 with fail
    go_wp2_with fail
    refine (gBegin_c ok ox oy oz _).mono ?_
    rintro e V8 ⟨rfl, hb⟩
    have HB8 := Lib.hid (HB5.out.below hb)
    have HN4 := Lib.hid (HN3.out.other (hb.block _ (lt_of_cell HN3.out.1)))
    clear hb HB5 HO5 HN3 p0 p1 p2 p3
    obtain ⟨_, s1, s2, s3, s4, s5, s6, s7, s8, s9, s10, s11, s12, s13⟩ := HB8.out.wo.stS Hhm.out rfl
    have rf : ∀ j, V8.frozen? ⟨q.R, j, none⟩ = false := by obtain ⟨lv, hmt, _⟩ := HB8.out.wo.mt; exact fun j => World.rowIs.frozen hmt j
    have HM' := HB8.out.putM m ⟨1, ok, ox, oy, oz, 0, 0, 0, 0, 0, 0, 0, 0⟩
    dsimp only [pW14] at HM'
    have HM := Lib.hid HM'
    clear HM'
    have HN5' := HN4.out.other (V := pW14 V8 q.R (m * 14) ⟨1, ok, ox, oy, oz, 0, 0, 0, 0, 0, 0, 0, 0⟩) (heap_pW14 V8 q.R _ _ hNR)
    dsimp only [pW14] at HN5'
    have HN5 := Lib.hid HN5'
    clear HN5' HB8 HN4
    go_upto_region 9 with fail
    clear s1 s2 s3 s4 s5 s6 s7 s8 s9 s10 s11 s12 s13 rf
    generalize (((((((((((((V8.setCell ⟨q.R, m * 14, none⟩ (.int .i64 1)).setCell ⟨q.R, m * 14 + 1, none⟩ (.int .i64 ok)).setCell ⟨q.R, m * 14 + 2, none⟩ (.int .i64 ox)).setCell ⟨q.R, m * 14 + 3, none⟩ (.int .i64 oy)).setCell ⟨q.R, m * 14 + 4, none⟩ (.int .i64 oz)).setCell ⟨q.R, m * 14 + 5, none⟩ (.int .u64 0)).setCell ⟨q.R, m * 14 + 6, none⟩ (.int .u64 0)).setCell ⟨q.R, m * 14 + 7, none⟩ (.int .u64 0)).setCell ⟨q.R, m * 14 + 8, none⟩ (.int .u64 0)).setCell ⟨q.R, m * 14 + 9, none⟩ (.int .u64 0)).setCell ⟨q.R, m * 14 + 10, none⟩ (.int .u64 0)).setCell ⟨q.R, m * 14 + 11, none⟩ (.int .i64 0)).setCell ⟨q.R, m * 14 + 12, none⟩ (.int .i64 0)) = w8 at *
    obtain ⟨n0, n1, n2, n3, n4, n5, n6⟩ := HN5.out
    dsimp only at n0 n1 n2 n3 n4 n5 n6
    have HB9 := Lib.hid (HM.out.below (below_new w8 (.cells #[.int .i64 (m : Int), .int .i64 1, .int .i64 ok, .int .i64 ox, .int .i64 oy, .int .i64 oz, .int .i64 0] 68)))
    have HRow := Lib.hid (nt_row w8 (⟨(m : Int), 1, ok, ox, oy, oz, 0⟩ : Nt))
    have hTs : w8.heap.size ≤ (w8.alloc (.cells #[.int .i64 (m : Int), .int .i64 1, .int .i64 ok, .int .i64 ox, .int .i64 oy, .int .i64 oz, .int .i64 0] 68)).heap.size := by simp
    have hTh : q.hi ≤ w8.heap.size := by have := HM.out.wo.hi; omega
    have hT2 : w.heap.size < w8.heap.size := HM.out.ev.lt
    clear HM HN5
    go_wp2_with fail
    clear n0 n1 n2 n3 n4 n5 n6
    generalize (w8.alloc (.cells #[.int .i64 (m : Int), .int .i64 1, .int .i64 ok, .int .i64 ox, .int .i64 oy, .int .i64 oz, .int .i64 0] 68)) = w9 at *
    generalize w8.heap.size = T at *
    refine (HX.out w9 T HB9.out.wo HRow.out hTh hTs).mono ?_
    rintro e V ⟨v, rfl, ⟨⟨nv, rfl, hnt, hno⟩, hWo, hSv⟩⟩
    obtain ⟨an, cn, rfl, _⟩ := id hnt
    have HR' := ev_ret' HB9.out hT2 hWo ⟨_, rfl, hnt, hno⟩ hSv
    obtain ⟨v0, v1, v2, v3, v4, v5, v6, ef⟩ := HR'.1.cells
    dsimp only [putE] at HR'
    have HR := Lib.hid HR'
    clear HR' hnt hno hWo hSv HB9 HRow
    go_wp2_with fail
    obtain ⟨e0, e1, e2, e3, e4, e5, e6, _⟩ := HR.out.2.1.cells
    refine bodyPost_ret (v := .agg #[.bool ran, .int .i64 k1, .int .i64 i1, .int .u64 x1, .int .u64 y1, .int .u64 o1, .slice an nts.length cn]) (by simp [results, Tryz.f34, go_sem, e0, e1, e2, e3, e4, e5, e6]) rfl ?_
    exact ⟨_, rfl, HR.out.2.2.1, HR.out.2.2.2.1, HR.out.2.2.2.2⟩
end Go.Proofs.YtbpooljohjkbjaaGreatDoor
/- Pick is pickS. -/
namespace Go.Proofs.YtbpooljohjkbjaaGreatDoor
open Go Go.RowKit
set_option maxRecDepth 100000
attribute [local go_sem ↓] Go.wp_at_zero Go.wp_at_succ
theorem wpick_c {w : World} {q : WoK} {C : Cf} {S : Ws} {N : Int} (h : WoAt w q C S) (hB : WsB N S) (hN : N ≤ 1000000) (p : Int) :
    Calls Tryz.prog 12 #[.pointer (some ⟨q.B, 0, none⟩), .int .i64 p] w fun e w' => ∃ v, e = .returned v ∧ EvV w.heap.size w' v (pickS C S p).2 ∧ WoAt w' q C (pickS C S p).1 ∧ Sav (Ib q w.heap.size) w w' := by
  have hb1 : 1 ≤ C.b := h.right.2.2.1
  have hu : (Dy.of S.f).U := hB.f
  unfold pickS
  by_cases hp : p < 0 ∨ C.b < p
  · rw [if_pos hp]
    have hx : ¬ (0 ≤ p ∧ p < C.b) := by omega
    have hh : decide (0 ≤ p ∧ p < C.b) = false := decide_eq_false hx
    exact pk_none h (by omega) (fun W h => wBusy_no h hx) (fun W h => by have := wHas_c h p; rw [hh] at this; exact this)
  rw [if_neg hp]
  by_cases hc : p = C.b
  · subst hc
    rw [if_pos rfl]
    obtain ⟨⟨j0, j1⟩, ⟨c0, c1⟩, ⟨m0, m1⟩, y0, y1⟩ := hB.n
    have hst : ∀ W, WoAt W q C S → Calls Tryz.prog 31 #[.pointer (some ⟨q.B, 0, none⟩)] W fun e w' => ∃ v, e = .returned v ∧ EvV W.heap.size w' v (colPk C S).2 ∧ WoAt w' q C (colPk C S).1 ∧ Sav (Ib q W.heap.size) W w' := fun W h => collect_c h hu hB.x (by omega)
    obtain ⟨r, hr⟩ : ∃ r, colPk C S = r := ⟨_, rfl⟩
    simp only [hr] at hst ⊢
    obtain ⟨S', ⟨ran, k1, i1, x1, y1, o1, nts⟩⟩ := r
    exact pk_col h hst
  rw [if_neg hc]
  obtain ⟨m, rfl⟩ : ∃ m : Nat, p = (m : Int) := ⟨p.toNat, by omega⟩
  have hmb : (m : Int) < C.b := by omega
  have hm : m < q.n := by have := h.nb; omega
  rw [Int.toNat_natCast]
  have hh : decide (0 ≤ (m : Int) ∧ (m : Int) < C.b) = true := decide_eq_true ⟨by omega, hmb⟩
  unfold mutPk
  by_cases hl : (S.mu m).l ≠ 0
  · rw [if_pos hl]
    have hbz : ∀ W, WoAt W q C S → Calls Tryz.prog 15 #[.pointer (some ⟨q.B, 0, none⟩), .int .i64 (m : Int)] W fun e w' => e = .returned (.bool true) ∧ W = w' := fun W h => by
      have := wBusy_yes h hmb
      rw [show (!((S.mu m).l == 0)) = true by simpa using hl] at this
      exact this
    have hst : ∀ W, WoAt W q C S → Calls Tryz.prog 32 #[.pointer (some ⟨q.B, 0, none⟩), .int .i64 (m : Int), .slice none 0 0] W fun e w' => ∃ v, e = .returned v ∧ EvV W.heap.size w' v (goM C S m (S.mu m) []).2 ∧ WoAt w' q C (goM C S m (S.mu m) []).1 ∧ Sav (Ib q W.heap.size) W w' := fun W h => step_c h hu hm (hB.mu m) (World.ownsRow_nil _ _ _ _) (by simp) h.hi (Nat.le_refl _)
    obtain ⟨r, hr⟩ : ∃ r, goM C S m (S.mu m) [] = r := ⟨_, rfl⟩
    simp only [hr] at hst ⊢
    obtain ⟨S', ⟨ran, k1, i1, x1, y1, o1, nts⟩⟩ := r
    exact pk_step h (by omega) hbz hst
  rw [if_neg hl]
  have hl0 : (S.mu m).l = 0 := by omega
  have hbz : ∀ W, WoAt W q C S → Calls Tryz.prog 15 #[.pointer (some ⟨q.B, 0, none⟩), .int .i64 (m : Int)] W fun e w' => e = .returned (.bool false) ∧ W = w' := fun W h => by
    have := wBusy_yes h hmb
    rw [show (!((S.mu m).l == 0)) = false by simp [hl0]] at this
    exact this
  have hhs : ∀ W, WoAt W q C S → Calls Tryz.prog 33 #[.pointer (some ⟨q.B, 0, none⟩), .int .i64 (m : Int)] W fun e w' => e = .returned (.bool true) ∧ W = w' := fun W h => by
    have := wHas_c h m
    rw [hh] at this
    exact this
  cases hlf : S.lf m with
  | nil => exact pk_empty h hm (by rw [hlf]; rfl) (by omega) hbz hhs
  | cons o l =>
    dsimp only
    obtain ⟨ok, ox, oy, oz⟩ := o
    by_cases hr0 : rightO C ⟨ok, ox, oy, oz⟩ = true
    · rw [if_pos hr0]
      have hck : checkF C.a C.b C.c C.d ok ox oy oz = 0 := by simpa [rightO] using hr0
      have hmu : (⟨ok, ox, oy, oz⟩ : Opn).B := hB.lf m _ (by rw [hlf]; exact List.mem_cons_self)
      have hst2 : ∀ W T, WoAt W q C ⟨S.f, upn S.mu m ⟨1, ok, ox, oy, oz, 0, 0, 0, 0, 0, 0, 0, 0⟩, upn S.lf m l, S.x⟩ → NtR W T (.slice (some ⟨T, 0, none⟩) 1 1) [(⟨(m : Int), 1, ok, ox, oy, oz, 0⟩ : Nt)] → q.hi ≤ T → T ≤ W.heap.size → Calls Tryz.prog 32 #[.pointer (some ⟨q.B, 0, none⟩), .int .i64 (m : Int), .slice (some ⟨T, 0, none⟩) 1 1] W fun e w' => ∃ v, e = .returned v ∧ EvV T w' v (goM C { S with lf := upn S.lf m l } m (Opn.mu ⟨ok, ox, oy, oz⟩) [ntOp m 1 ⟨ok, ox, oy, oz⟩ 0]).2 ∧ WoAt w' q C (goM C { S with lf := upn S.lf m l } m (Opn.mu ⟨ok, ox, oy, oz⟩) [ntOp m 1 ⟨ok, ox, oy, oz⟩ 0]).1 ∧ Sav (Ib q T) W w' := fun W T h hn h1 h2 => by
        have := step_c h hu hm (by dsimp only; rw [upn_at]; exact Opn.mu_B hmu) hn (by simp) h1 h2
        unfold goM at this ⊢
        dsimp only at this ⊢
        rw [upn_at, upn_upn] at this
        exact this
      obtain ⟨r, hr⟩ : ∃ r, goM C { S with lf := upn S.lf m l } m (Opn.mu ⟨ok, ox, oy, oz⟩) [ntOp m 1 ⟨ok, ox, oy, oz⟩ 0] = r := ⟨_, rfl⟩
      simp only [hr] at hst2 ⊢
      obtain ⟨S', ⟨ran, k1, i1, x1, y1, o1, nts⟩⟩ := r
      exact pk_begin h hm (by rw [hlf]; simp) (by omega) hbz hhs (fun W h => begin_ok h hm hlf hck hst2)
    · rw [if_neg hr0]
      have hck : (checkF C.a C.b C.c C.d ok ox oy oz == 0) = false := by simpa [rightO] using hr0
      exact pk_begin h hm (by rw [hlf]; simp) (by omega) hbz hhs (fun W h => begin_bad h hm hlf hck)
end Go.Proofs.YtbpooljohjkbjaaGreatDoor
/- What Run carries; picks one by one. -/
namespace Go.Proofs.YtbpooljohjkbjaaGreatDoor
open Go Go.RowKit
set_option maxRecDepth 100000
attribute [local go_sem ↓] Go.wp_at_zero Go.wp_at_succ
theorem run_append_zero {P : Program} (w : World) (t ty : TypeId) (base : Nat) (e : TypeId) (i : TypeInfo) (size : Nat) (ht : P.underlying t = some (.slice e)) (hi : P.info? e = some i)
    (v : Value) (n : Nat) (xs : List Value) (hown : w.ownsRow base e size v n xs) (ax : Option Addr) (c : Nat) :
    (Builtin.append_ #[t, t] ty #[v, .slice ax 0 c]).run P w = .ok v w := by
  rcases hown.2 with ⟨rfl, rfl⟩ | ⟨g, cap, cur, rfl, _, _, hn, _⟩
  · cases ax <;> simp [Builtin.append_, run_underlying ht, sizeOf, typeInfo, hi, Builtin.lenOf, Builtin.firstCells, loadCells, loadCellsFrom]
  · cases ax <;> simp [Builtin.append_, run_underlying ht, sizeOf, typeInfo, hi, Builtin.lenOf, Builtin.firstCells, loadCells, loadCellsFrom, hn, storeCells]
theorem wpList_append_zero {P : Program} {w : World} {ops : Array Oper} {rest : List Oper} {o : Oper} {a : Act} {Q : Exit → Act → World → Prop} (hgd : o.guard = none) (s x : Operand) (t : TypeId)
    (ho : o.op = .call { callee := .builtin .append, args := #[s, x], argTypes := #[t, t] })
    (base : Nat) (e : TypeId) (i : TypeInfo) (size : Nat) (ht : P.underlying t = some (.slice e)) (hi : P.info? e = some i)
    (v : Value) (n : Nat) (xs : List Value) (hs : a.eval s = v) (hown : w.ownsRow base e size v n xs) (ax : Option Addr) (c : Nat) (hx : a.eval x = .slice ax 0 c)
    (h : wpList P ops Q rest (a.put o.dst v) w) : wpList P ops Q (o :: rest) a w := by
  refine wpList_plain hgd fun _ hK => ?_
  unfold Oper.wp execOp
  simp only [ho, resolve, invoke, builtin, Sem.run_bind, Sem.run_pure, Result.andThen_ok, List.map_toArray, List.map_cons, List.map_nil, hs, hx, run_append_zero w t o.type base e i size ht hi v n xs hown ax c]
  exact hK _ _ h
theorem runS_app (C : Cf) (l m : List Int) : ∀ S, runS C S (l ++ m) = ((runS C (runS C S l).1 m).1, (runS C S l).2 ++ (runS C (runS C S l).1 m).2) := by
  induction l with
  | nil => intro S; simp [runS]
  | cons p l ih => intro S; simp [runS, ih, List.append_assoc]
theorem runS_take (C : Cf) (S : Ws) (P : List Int) {k : Nat} (hk : k < P.length) : runS C S (P.take (k + 1)) = ((pickS C (runS C S (P.take k)).1 P[k]).1, (runS C S (P.take k)).2 ++ (pickS C (runS C S (P.take k)).1 P[k]).2.nts) := by
  rw [List.take_add_one, List.getElem?_eq_getElem hk, runS_app]
  simp [runS]
theorem mutNts_len (m : Int) (o : Opn) (x : Mu) (a b : Bool) : (mutNts m o x a b).length ≤ 2 := by unfold mutNts; cases a <;> cases b <;> simp
theorem pick_len (C : Cf) (S : Ws) (p : Int) : (pickS C S p).2.nts.length ≤ 4 := by
  have hg : ∀ (S : Ws) (m : Nat) (x : Mu) (pre : List Nt), pre.length ≤ 1 → (goM C S m x pre).2.nts.length ≤ 4 := fun S m x pre h => by
    unfold goM Ev.of
    dsimp only
    rw [List.length_append]
    have := mutNts_len m x.op (lispS C (Dy.of S.f) m x).2.1 (lispS C (Dy.of S.f) m x).2.2.1 (lispS C (Dy.of S.f) m x).2.2.2
    omega
  unfold pickS
  split
  · simp [noEv]
  split
  · unfold colPk Ev.of colNts
    dsimp only
    simp only [List.length_append]
    have h1 : ∀ (p : Prop) [Decidable p] (n : Nt), (if p then [n] else []).length ≤ 1 := fun p _ n => by split <;> simp
    have := h1 ((colS C (Dy.of S.f) S.x).2.2 = 1) ⟨C.b, 4, 0, 0, 0, 0, 0⟩
    have := h1 ((colS C (Dy.of S.f) S.x).2.2 = 2 ∨ (colS C (Dy.of S.f) S.x).2.2 = 5) ⟨C.b, 5, 0, 0, 0, 0, S.x.c⟩
    have := h1 ((colS C (Dy.of S.f) S.x).2.2 = 3 ∨ (colS C (Dy.of S.f) S.x).2.2 = 5) ⟨C.b, 6, 0, 0, 0, 0, (colS C (Dy.of S.f) S.x).2.1.cy⟩
    omega
  · unfold mutPk
    split
    · exact hg _ _ _ _ (by simp)
    split
    · simp [noEv]
    split
    · exact hg _ _ _ _ (by simp)
    · simp
theorem run_len (C : Cf) (P : List Int) : ∀ S, (runS C S P).2.length ≤ 4 * P.length := by
  induction P with
  | nil => intro S; simp [runS]
  | cons p l ih => intro S; simp only [runS, List.length_append, List.length_cons]; have := pick_len C S p; have := ih (pickS C S p).1; omega
structure RuW (w W : World) (q : WoK) (C : Cf) (S : Ws) (v : Value) (L : List Nt) : Prop where
  wo : WoAt W q C S
  row : NtR W w.heap.size v L
  sav : Sav (Ib q w.heap.size) w W
  hi : q.hi ≤ w.heap.size
namespace RuW
variable {w W V : World} {q : WoK} {C : Cf} {S S' : Ws} {v : Value} {L : List Nt}
theorem pick (h : RuW w W q C S v L) (hw : WoAt V q C S') (hs : Sav (Ib q W.heap.size) W V) : RuW w V q C S' v L := by
  have hz := h.sav.size; have hi := h.hi
  exact ⟨hw, h.row.block (fun k e => hs.block _ (h.row.lt k e).2 (fun e' => e'.elim (fun e' => by have := (h.row.lt k e).1; have := e'.2; omega) (fun e' => by have := (h.row.lt k e).2; omega))), h.sav.trans (hs.mono (fun k e => e.imp id (fun e => by omega))), h.hi⟩
theorem app (h : RuW w W q C S v L) {g cap : Nat} {M : List Nt} (hg : W.grownBy V v.ownBlock) (hown : V.ownsRow w.heap.size 68 7 (.slice (some ⟨g, 0, none⟩) (L.length + M.length) cap) (L.length + M.length) (ntsV L ++ ntsV M)) : RuW w V q C S (.slice (some ⟨g, 0, none⟩) (L.length + M.length) cap) (L ++ M) := by
  have hz := h.sav.size; have hi := h.hi
  have key : ∀ k, k < w.heap.size → V.heap[k]? = W.heap[k]? := fun k hk => hg.block k (by omega) (fun e => by have := (h.row.lt k e.symm).1; omega)
  have hB : Below w.heap.size W V := (Below.refl _ W).grown hg (by omega) (fun k e => (h.row.lt k e).1)
  have hh := h.wo.ne.h
  refine ⟨h.wo.out (h.wo.env.other (key _ (by have := h.wo.glo.1; have := hh.1; have := hh.2; omega)) (key _ (by have := h.wo.glo.2; have := hh.1; have := hh.2; omega))) hg.size (fun k _ h2 => key k (by omega)), ?_, h.sav.trans ⟨hB.os, hB.tape, hB.output, hB.size, fun k _ hn => key k (by
      rcases Nat.lt_or_ge k w.heap.size with h1 | h1
      · exact h1
      · exact absurd (.inr h1) hn)⟩, hi⟩
  show V.ownsRow _ 68 7 _ (L ++ M).length (ntsV (L ++ M))
  rw [ntsV_append, List.length_append]; exact hown
end RuW
theorem nts_cells {w : World} {b off : Nat} {M : List Nt} (h : ∀ k, (hk : k < M.length) → NtAt w b (off + k * 7) M[k]) : ∀ j u, (ntsV M)[j]? = some u → w.cell? ((⟨b, off, none⟩ : Addr).add j) = some u := by
  intro j u hu
  have hj : j < M.length * 7 := by
    have := (List.getElem?_eq_some_iff.1 hu).1
    rwa [ntsV_length] at this
  rw [Addr.add_lit]
  obtain ⟨k, r, rfl, hr⟩ : ∃ k r, j = k * 7 + r ∧ r < 7 := ⟨j / 7, j % 7, by omega, by omega⟩
  have hk : k < M.length := by omega
  rw [ntsV_get M k hk r hr] at hu
  obtain ⟨h0, h1, h2, h3, h4, h5, h6⟩ := h k hk
  rw [← Nat.add_assoc]
  rcases (by omega : r = 0 ∨ r = 1 ∨ r = 2 ∨ r = 3 ∨ r = 4 ∨ r = 5 ∨ r = 6) with rfl | rfl | rfl | rfl | rfl | rfl | rfl <;> simp only [ntC, List.getElem?_cons_zero, List.getElem?_cons_succ, Option.some.injEq] at hu <;> subst hu <;> assumption
end Go.Proofs.YtbpooljohjkbjaaGreatDoor
/- Run is runS. -/
namespace Go.Proofs.YtbpooljohjkbjaaGreatDoor
open Go Go.RowKit
set_option maxRecDepth 100000
attribute [local go_sem ↓] Go.wp_at_zero Go.wp_at_succ
theorem field_notes (r : Bool) (k i x y o : Int) (a : Option Addr) (n c : Nat) (W : World) : (Instr.field 41 (.agg #[.bool r, .int .i64 k, .int .i64 i, .int .u64 x, .int .u64 y, .int .u64 o, .slice a n c]) 2).run Tryz.prog W = .ok (.slice a n c) W := by kernel_rfl
set_option maxHeartbeats 6400000 in
theorem wrun_c {w : World} {q : WoK} {C : Cf} {S : Ws} {N : Int} (h : WoAt w q C S) (hB : WsB N S) (hN0 : 0 ≤ N) {P : List Int} (hN : N + P.length ≤ 1000000) {a : Option Addr} {cap : Nat} (hp : IntsSl w (.slice a P.length cap) P) (hpb : 0 < P.length → ∀ b off, a = some ⟨b, off, none⟩ → b < q.lo ∨ q.hi ≤ b) :
    Calls Tryz.prog 13 #[.pointer (some ⟨q.B, 0, none⟩), .slice a P.length cap] w fun e w' => ∃ nv, e = .returned nv ∧ RuW w w' q C (runS C S P).1 nv (runS C S P).2 := by
  obtain ⟨i7, hi7, hz0, hz1, hz2⟩ := info_parts infoNote
  have HP := Lib.hid hp; have HPB := Lib.hid hpb
  have HB : Hid (∀ k, k ≤ P.length → WsB (N + k) (runS C S (P.take k)).1) := Lib.hid (fun k hk => by
    have := run_B (C := C) (P.take k) hB hN0
    rw [List.length_take, Nat.min_eq_left hk] at this
    exact this)
  have HI := Lib.hid h.hi
  have H0 : Hid (RuW w w q C (runS C S (P.take 0)).1 (.slice none 0 0) (runS C S (P.take 0)).2) := Lib.hid ⟨h, World.ownsRow_nil _ _ _ _, Sav.of (Below.refl _ _), h.hi⟩
  clear h hB hp hpb
  go_enter Tryz.func13, Tryz.ntmps13
  go_wp2_with fail
  go_loopw [5, 10] (fun vv iv wr => ∃ k : Nat, iv = .int .i64 k ∧ k ≤ P.length ∧ Hid (RuW w wr q C (runS C S (P.take k)).1 vv (runS C S (P.take k)).2)) (fun _ iv _ => P.length - (intOf iv).toNat)
  case atStart => exact ⟨0, rfl, by omega, H0⟩
  case round =>
    clear H0
    obtain ⟨k, rfl, hk, HR⟩ := hrel
    by_cases hkl : k < P.length
    · have hk0 : (0 : Int) ≤ (k : Int) := by omega
      have hkI : (k : Int) < (P.length : Int) := by omega
      have dk : decide ((k : Int) < (P.length : Int)) = true := decide_eq_true hkI
      have hk1 : IntKind.i64.wrap ((k : Int) + 1) = (k : Int) + 1 := IntWalk.i64_in _ (by omega)
      have HE := Lib.hid (runS_take C S P hkl)
      have hLn : (runS C S (P.take k)).2.length ≤ 4 * k := by have := run_len C (P.take k) S; rw [List.length_take, Nat.min_eq_left hk] at this; exact this
      obtain ⟨p, hpk⟩ : ∃ p, P[k] = p := ⟨_, rfl⟩
      have c0 : ∃ b off, a = some ⟨b, off, none⟩ ∧ wr.cell? ⟨b, off + k, none⟩ = some (.int .i64 p) := by
        obtain ⟨a', cap', e', hc⟩ := HP.out
        cases e'
        obtain ⟨b, off, rfl, hc'⟩ := hc.resolve_left (by omega)
        have h1 := hc' k hkl
        rw [hpk] at h1
        exact ⟨b, off, rfl, (World.cell?_of_block (a := ⟨b, off + k, none⟩) (HR.out.sav.block b (lt_of_cell h1) (fun e => e.elim (fun e => by have := HPB.out (by omega) b off rfl; have := e.1; have := e.2; omega) (fun e => by have := lt_of_cell h1; omega)))).trans h1⟩
      obtain ⟨b, off, rfl, c0⟩ := c0
      have HC := Lib.hid (wpick_c HR.out.wo (HB.out k hk) (by omega) p)
      have hn4 := pick_len C (runS C S (P.take k)).1 p
      rw [hpk] at HE
      go_wp2_with fail
      refine HC.out.mono ?_
      rintro e V ⟨v, rfl, ⟨⟨nv, rfl, hnt, hno⟩, hWo, hSv⟩⟩
      have HR1 := Lib.hid (HR.out.pick hWo hSv)
      clear HC hWo hSv HR c0
      generalize (pickS C (runS C S (P.take k)).1 p).2 = ev at *
      generalize (pickS C (runS C S (P.take k)).1 p).1 = S1 at *
      generalize (runS C S (P.take k)).2 = L at *
      obtain ⟨M, hM⟩ : ∃ M, ev.nts = M := ⟨_, rfl⟩
      rw [hM] at hnt HE hn4
      obtain ⟨an, cn, rfl, hnt⟩ := hnt
      have HNt := Lib.hid hnt
      clear hnt
      by_cases hm0 : M.length = 0
      · have hMe : M = [] := List.eq_nil_of_length_eq_zero hm0
        rw [hm0]
        have hfd := field_notes ev.ran ev.k ev.i ev.x ev.y ev.o an 0 cn
        go_wp2_with (at_builtin; go_loud (refine wpList_append_zero (by rfl) _ _ _ (by rfl) w.heap.size 68 i7 7 Tryz.underlying39 hi7 _ L.length (ntsV L) (by rfl) HR1.out.row an cn (by rfl) ?_))
        go_roundw
        case rel => exact ⟨k + 1, by first | rfl | go_num, by omega, Lib.hid (by rw [HE.out, hMe]; dsimp only; rw [List.append_nil]; exact HR1.out)⟩
        case measure => simp [intOf]; omega
      · obtain ⟨b9, o9, rfl, hcs⟩ := HNt.out.resolve_left hm0
        have HNW := Lib.hid (nts_cells hcs)
        clear hcs HNt
        have hm1 : 0 < M.length := by omega
        obtain ⟨m9, hm9⟩ : ∃ m9, M.length = m9 := ⟨_, rfl⟩
        have HL7 : Hid ((ntsV M).length = m9 * 7) := Lib.hid (by rw [ntsV_length, hm9])
        have HAp : Hid (∀ g cap w2, w2.ownsRow w.heap.size 68 7 (.slice (some ⟨g, 0, none⟩) (L.length + m9) cap) (L.length + m9) (ntsV L ++ ntsV M) → V.grownBy w2 u5.ownBlock → RuW w w2 q C S1 (.slice (some ⟨g, 0, none⟩) (L.length + m9) cap) (L ++ M)) := Lib.hid (fun g cap w2 h1 h2 => by rw [← hm9] at h1 ⊢; exact HR1.out.app h2 h1)
        have hz := HR1.out.sav.size
        rw [hm9] at hm1 hn4 ⊢
        have hfd := field_notes ev.ran ev.k ev.i ev.x ev.y ev.o (some ⟨b9, o9, none⟩) m9 cn
        go_wp2_with (at_builtin; go_loud (refine wpList_append_lies _ (by rfl) _ _ _ (by rfl) w.heap.size 68 i7 _ 7 56 Tryz.underlying39 hi7 hz0 hz1 hz2 rfl (by omega) _ L.length (ntsV L) (by rfl) HR1.out.row ⟨b9, o9, none⟩ m9 cn (ntsV M) (by rfl) HL7.out HNW.out (ntsV_one M) hm1 (by unfold maxLen; omega) (by omega) hz _ rfl ?_; intro gg cap9 w2 hown1 hgrow hat hlt2; have HR2 := Lib.hid (HAp.out gg cap9 w2 hown1 hgrow)))
        clear hown1 hgrow hat hlt2 HAp HR1 HNW
        go_roundw
        case rel => exact ⟨k + 1, by first | rfl | go_num, by omega, Lib.hid (by rw [HE.out]; exact HR2.out)⟩
        case measure => simp [intOf]; omega
    · obtain rfl : k = P.length := by omega
      have dk : decide ((P.length : Int) < (P.length : Int)) = false := decide_eq_false (by omega)
      go_wp2_with fail
      go_ret
      exact ⟨_, rfl, by rw [List.take_length] at HR; exact HR.out⟩
end Go.Proofs.YtbpooljohjkbjaaGreatDoor
/- slices.Clone of operations. -/
namespace Go.Proofs.YtbpooljohjkbjaaGreatDoor
open Go Go.RowKit
set_option maxRecDepth 100000
attribute [local go_sem ↓] Go.wp_at_zero Go.wp_at_succ
def opC (o : Opn) : List Value := [.int .i64 o.k, .int .i64 o.x, .int .i64 o.y, .int .i64 o.z]
def opsV : List Opn → List Value
  | [] => []
  | o :: L => opC o ++ opsV L
theorem opsV_length (L : List Opn) : (opsV L).length = L.length * 4 := by
  induction L with
  | nil => rfl
  | cons n L ih => show (opC n ++ opsV L).length = _; rw [List.length_append, ih, List.length_cons]; show 4 + _ = _; omega
theorem opsV_get (L : List Opn) : ∀ k (hk : k < L.length) j, j < 4 → (opsV L)[k * 4 + j]? = (opC L[k])[j]? := by
  induction L with
  | nil => intro k hk; simp at hk
  | cons n L ih =>
    intro k hk j hj
    show (opC n ++ opsV L)[k * 4 + j]? = _
    cases k with
    | zero => rw [List.getElem?_append_left (by show _ < 4; omega), Nat.zero_mul, Nat.zero_add]; rfl
    | succ k =>
      rw [List.getElem?_append_right (by show 4 ≤ _; omega)]
      have := ih k (by simp at hk; omega) j hj
      rw [show (k + 1) * 4 + j - (opC n).length = k * 4 + j by show _ - 4 = _; omega]
      exact this
theorem opsV_one (L : List Opn) : ∀ u ∈ opsV L, u.oneCell' = true := by
  induction L with
  | nil => intro u hu; simp [opsV] at hu
  | cons n L ih =>
    intro u hu
    rcases List.mem_append.1 (show u ∈ opC n ++ opsV L from hu) with h | h
    · simp only [opC, List.mem_cons, List.mem_nil_iff, or_false] at h
      rcases h with rfl | rfl | rfl | rfl <;> rfl
    · exact ih u h
theorem ops_cells4 {w : World} {b off : Nat} {M : List Opn} (h : ∀ k, (hk : k < M.length) → OpAt w b (off + k * 4) M[k]) : ∀ j u, (opsV M)[j]? = some u → w.cell? ((⟨b, off, none⟩ : Addr).add j) = some u := by
  intro j u hu
  have hj : j < M.length * 4 := by
    have := (List.getElem?_eq_some_iff.1 hu).1
    rwa [opsV_length] at this
  rw [Addr.add_lit]
  obtain ⟨k, r, rfl, hr⟩ : ∃ k r, j = k * 4 + r ∧ r < 4 := ⟨j / 4, j % 4, by omega, by omega⟩
  have hk : k < M.length := by omega
  rw [opsV_get M k hk r hr] at hu
  obtain ⟨h0, h1, h2, h3⟩ := h k hk
  rw [← Nat.add_assoc]
  rcases (by omega : r = 0 ∨ r = 1 ∨ r = 2 ∨ r = 3) with rfl | rfl | rfl | rfl <;> simp only [opC, List.getElem?_cons_zero, List.getElem?_cons_succ, Option.some.injEq] at hu <;> subst hu <;> assumption
abbrev OpR (w : World) (base : Nat) (v : Value) (L : List Opn) : Prop := w.ownsRow base 58 4 v L.length (opsV L)
theorem OpR.lf {w : World} {base : Nat} {v : Value} {L : List Opn} (h : OpR w base v L) : LfSl w (fun b => base ≤ b ∧ b < w.heap.size) v L := by
  have h' := h
  obtain ⟨_, ⟨rfl, hn⟩ | ⟨g, cap, cur, rfl, hb, hg, hc, _⟩⟩ := h
  · exact ⟨none, 0, by rw [hn], by omega, .inl hn⟩
  · refine ⟨some ⟨g, 0, none⟩, cap, rfl, hc, .inr ⟨g, 0, rfl, ⟨hb, (World.ownsRow.lt h' g rfl).2⟩, fun k hk => ?_⟩⟩
    have key : ∀ j u, j < 4 → (opC L[k])[j]? = some u → w.cell? ⟨g, 0 + k * 4 + j, none⟩ = some u := fun j u hj hu => by
      have := World.ownsRow.cells h' rfl (k * 4 + j) u ((opsV_get L k hk j hj).trans hu)
      rw [Addr.add_lit, Nat.zero_add] at this
      rw [Nat.zero_add]; exact this
    exact ⟨key 0 _ (by omega) rfl, key 1 _ (by omega) rfl, key 2 _ (by omega) rfl, key 3 _ (by omega) rfl⟩
theorem infoOp : (Tryz.prog.info? 58).map (fun i => (i.zero, i.size, i.bytes)) = some (some (.agg #[.int .i64 0, .int .i64 0, .int .i64 0, .int .i64 0]), 4, 32) := by kernel_rfl
def ClP (w : World) (L : List Opn) (e : Ending) (w' : World) : Prop := ∃ v, e = .returned v ∧ Below w.heap.size w w' ∧ LfSl w' (fun b => w.heap.size ≤ b ∧ b < w'.heap.size) v L
theorem oclone_nil (cap : Nat) (w : World) : Calls Tryz.prog 25 #[.slice none 0 cap] w (ClP w []) := by
  have hq := fun w => Lib.run_eql_slice_nil (P := Tryz.prog) w 65 58 none 0 cap 0 0 Tryz.underlying65
  go_enter Tryz.func25, Tryz.ntmps25
  go_wp2_with fail
  go_ret
  exact ⟨_, rfl, Below.refl _ _, none, 0, rfl, Nat.le_refl _, .inl rfl⟩
theorem oclone_zero (ad : Addr) (cap : Nat) (w : World) : Calls Tryz.prog 25 #[.slice (some ad) 0 cap] w (ClP w []) := by
  obtain ⟨i0, hi, _, _, _⟩ := info_parts infoOp
  have hq := fun w => Lib.run_eql_slice_nil (P := Tryz.prog) w 65 58 (some ad) 0 cap 0 0 Tryz.underlying65
  have hown : (w.alloc (.cells #[] 58)).ownsRow w.heap.size 58 4 (.slice (some ⟨w.heap.size, 0, none⟩) 0 0) 0 [] := ⟨rfl, .inr ⟨w.heap.size, 0, #[], rfl, Nat.le_refl _, newBlock w _, Nat.le_refl _, Nat.zero_le _, rfl, rfl⟩⟩
  have HO := Lib.hid hown
  clear hown
  go_enter Tryz.func25, Tryz.ntmps25
  go_wp2_with (at_builtin; go_loud (refine wpList_append_zero (by rfl) _ _ _ (by rfl) w.heap.size 58 i0 4 Tryz.underlying65 hi _ 0 [] (by rfl) HO.out (some ad) cap (by rfl) ?_))
  go_ret
  exact ⟨_, rfl, below_new _ _, _, 0, rfl, Nat.le_refl _, .inl rfl⟩
set_option maxHeartbeats 1600000 in
theorem oclone_some (b off cap : Nat) (L : List Opn) (hl : L.length ≤ 4398046511104) (hl0 : 0 < L.length) (w : World) (hc : ∀ k, (hk : k < L.length) → OpAt w b (off + k * 4) L[k]) : Calls Tryz.prog 25 #[.slice (some ⟨b, off, none⟩) L.length cap] w (ClP w L) := by
  obtain ⟨i0, hi, hz0, hz1, hz2⟩ := info_parts infoOp
  have hown : OpR (w.alloc (.cells #[] 58)) w.heap.size (.slice (some ⟨w.heap.size, 0, none⟩) 0 0) [] := ⟨rfl, .inr ⟨w.heap.size, 0, #[], rfl, Nat.le_refl _, newBlock w _, Nat.le_refl _, Nat.zero_le _, rfl, rfl⟩⟩
  have HO := Lib.hid hown
  have HN := Lib.hid (ops_cells4 (fun k hk => (hc k hk).other ((below_new w (.cells #[] 58)).block b (hc k hk).lt)))
  have H1 := Lib.hid (opsV_one L); have HL := Lib.hid (opsV_length L)
  have HK : Hid (∀ g cap w2, w2.ownsRow w.heap.size 58 4 (.slice (some ⟨g, 0, none⟩) (0 + L.length) cap) (0 + L.length) ([] ++ opsV L) → (w.alloc (.cells #[] 58)).grownBy w2 (some w.heap.size) → ClP w L (.returned (.slice (some ⟨g, 0, none⟩) L.length cap)) w2) := Lib.hid (fun g cap w2 h1 h2 => by
    rw [Nat.zero_add, List.nil_append] at h1
    exact ⟨_, rfl, ((Below.refl _ w).alloc (Nat.le_refl _) _).grown h2 (by simp) (fun k e => by cases e; exact Nat.le_refl _), OpR.lf h1⟩)
  clear hown hc
  have hq := fun w => Lib.run_eql_slice_nil (P := Tryz.prog) w 65 58 (some ⟨b, off, none⟩) L.length cap 0 0 Tryz.underlying65
  generalize opsV L = V at *
  generalize L.length = n at *
  go_enter Tryz.func25, Tryz.ntmps25
  go_wp2_with (at_builtin; go_loud (refine wpList_append_lies _ (by rfl) _ _ _ (by rfl) w.heap.size 58 i0 _ 4 32 Tryz.underlying65 hi hz0 hz1 hz2 rfl (by omega) _ 0 [] (by rfl) HO.out ⟨b, off, none⟩ n cap V (by rfl) HL.out HN.out H1.out hl0 (by unfold maxLen; omega) (by omega) (by simp) _ rfl ?_; intro gg cap9 w2 hown1 hgrow hat hlt2; have HR := Lib.hid (HK.out gg cap9 w2 hown1 hgrow)))
  clear hown1 hgrow hat hlt2 HK HO
  go_ret
  exact HR.out
theorem oclone_c {w : World} {v : Value} {L : List Opn} (h : OpsSl w v L) (hl : L.length ≤ 4398046511104) : Calls Tryz.prog 25 #[v] w (ClP w L) := by
  obtain ⟨a, cap, rfl, h⟩ := h
  by_cases h0 : L.length = 0
  · obtain rfl : L = [] := List.eq_nil_of_length_eq_zero h0
    cases a with
    | none => exact oclone_nil cap w
    | some ad => exact oclone_zero ad cap w
  · obtain ⟨b, off, rfl, hc⟩ := h.resolve_left h0
    exact oclone_some b off cap L hl (by omega) w hc
end Go.Proofs.YtbpooljohjkbjaaGreatDoor
/- What New carries. -/
namespace Go.Proofs.YtbpooljohjkbjaaGreatDoor
open Go Go.RowKit
set_option maxRecDepth 100000
attribute [local go_sem ↓] Go.wp_at_zero Go.wp_at_succ
def Ws0 (a b c d : Int) (P : List (List Opn)) : Ws := ⟨fstV a b c d, fun _ => Mu.zero, fun i => (P[i]?).getD [], ⟨1, 0, 0, 0, 0, 0, false, a - 1, 0⟩⟩
def WsK (a b c d : Int) (P : List (List Opn)) (k : Nat) : Ws := ⟨fstV a b c d, fun _ => Mu.zero, fun i => if i < k then (P[i]?).getD [] else [], ⟨1, 0, 0, 0, 0, 0, false, a - 1, 0⟩⟩
theorem WsK_end (a b c d : Int) (P : List (List Opn)) : WsK a b c d P P.length = Ws0 a b c d P := by
  unfold WsK Ws0
  congr 1
  funext i
  by_cases h : i < P.length
  · rw [if_pos h]
  · rw [if_neg h, List.getElem?_eq_none (by omega)]; rfl
theorem WsK_succ (a b c d : Int) (P : List (List Opn)) {k : Nat} (hk : k < P.length) : ({ WsK a b c d P k with lf := upn (WsK a b c d P k).lf k P[k] } : Ws) = WsK a b c d P (k + 1) := by
  have e : upn (fun i => if i < k then (P[i]?).getD [] else []) k P[k] = fun i => if i < k + 1 then (P[i]?).getD [] else [] := by
    funext i
    unfold upn
    by_cases h : i = k
    · subst h; rw [if_pos rfl, if_pos (by omega), List.getElem?_eq_getElem hk]; rfl
    · rw [if_neg h]
      by_cases h2 : i < k
      · dsimp only; rw [if_pos h2, if_pos (by omega)]
      · dsimp only; rw [if_neg h2, if_neg (by omega)]
  unfold WsK
  dsimp only
  rw [e]
theorem WoAt.raise {w : World} {q : WoK} {C : Cf} {S : Ws} (h : WoAt w q C S) {hi' : Nat} (h1 : q.hi ≤ hi') (h2 : hi' ≤ w.heap.size) : WoAt w { q with hi := hi' } C S := by
  have n := h.ne
  have up : ∀ k, In q.lo q.hi k → In q.lo hi' k := fun k e => ⟨e.1, Nat.lt_of_lt_of_le e.2 h1⟩
  obtain ⟨lv, hm, hl⟩ := h.mt
  refine ⟨h.env, h.glo, h2, ⟨up _ n.h, up _ n.a, up _ n.g, up _ n.r, up _ n.b, n.rh, n.ra, n.rg, n.rb, n.bh, n.ba, n.bg⟩, h.nb, h.right, h.n0, h.hand, h.bk, lv, hm, fun i hi => ?_⟩
  obtain ⟨a, cap, e, hc, h'⟩ := hl i hi
  refine ⟨a, cap, e, hc, h'.imp id ?_⟩
  rintro ⟨b, off, e, hq, h'⟩
  exact ⟨b, off, e, ⟨hq.1, Nat.lt_of_lt_of_le hq.2.1 h1, hq.2.2⟩, h'⟩
theorem infoMutator : (Tryz.prog.info? 79).map (fun i => (i.zero, i.size, i.bytes)) = some (some (.agg #[.int .i64 0, .int .i64 0, .int .i64 0, .int .i64 0, .int .i64 0, .int .u64 0, .int .u64 0, .int .u64 0, .int .u64 0, .int .u64 0, .int .u64 0, .int .i64 0, .int .i64 0, .slice none 0 0]), 14, 128) := by kernel_rfl
def zM14 : Array Value := #[.int .i64 0, .int .i64 0, .int .i64 0, .int .i64 0, .int .i64 0, .int .u64 0, .int .u64 0, .int .u64 0, .int .u64 0, .int .u64 0, .int .u64 0, .int .i64 0, .int .i64 0, .slice none 0 0]
theorem make_mutators (n : Nat) (hn : n ≤ 1000) (w : World) : (Instr.makeSlice 73 (.int .i64 (n : Int)) (.int .i64 (n : Int))).run Tryz.prog w = .ok (.slice (some ⟨w.heap.size, 0, none⟩) n n) (w.alloc (.cells (madeCells zM14 (n * 14)) 79)) := by
  obtain ⟨i, hi, hzz⟩ := Option.map_eq_some_iff.1 infoMutator
  simp only [Prod.mk.injEq] at hzz
  obtain ⟨hz, hs, hb⟩ := hzz
  have hr := run_make (P := Tryz.prog) w 73 79 i _ Tryz.underlying73 hi hz .i64 .i64 n n (by omega) (Int.le_refl _) (by rw [hb]; omega) (by omega)
  simp only [Int.toNat_natCast, hs] at hr
  exact hr
theorem mutators_made (w : World) (k : Nat) : MtAt (w.alloc (.cells (madeCells zM14 (k * 14)) 79)) w.heap.size k (fun _ => Mu.zero) (fun _ => .slice none 0 0) := by
  refine ⟨_, newBlock _ _, ?_, fun p hp => ?_⟩
  · rw [size_madeCells, Nat.mul_comm]
  · have hp : p < k * 14 := by omega
    obtain ⟨r, hr, hp2⟩ : ∃ r, r < 14 ∧ p % 14 = r := ⟨p % 14, by omega, rfl⟩
    have : (madeCells zM14 (k * 14))[p]? = some (zM14[p % 14]?.getD default) := by simp [madeCells, hp, zM14]
    rw [this, hp2]
    show _ = some (if p % 14 = 13 then Value.slice none 0 0 else mcellM Mu.zero (p % 14))
    rw [hp2]
    rcases (by omega : r = 0 ∨ r = 1 ∨ r = 2 ∨ r = 3 ∨ r = 4 ∨ r = 5 ∨ r = 6 ∨ r = 7 ∨ r = 8 ∨ r = 9 ∨ r = 10 ∨ r = 11 ∨ r = 12 ∨ r = 13) with rfl | rfl | rfl | rfl | rfl | rfl | rfl | rfl | rfl | rfl | rfl | rfl | rfl | rfl
    all_goals rfl
structure NwW (w W : World) (H A G n : Nat) (a b c d : Int) : Prop where
  env : Env W
  hand : HAt W H A G ⟨n, a, b, c, d⟩ ⟨fstV a b c d, 0, 0, 0, 0, 0⟩
  old : Below w.heap.size w W
  lo : w.heap.size ≤ H ∧ w.heap.size ≤ A ∧ w.heap.size ≤ G
theorem NwW.below {w W V : World} {H A G n : Nat} {a b c d : Int} (h : NwW w W H A G n a b c d) (hb : Below W.heap.size W V) : NwW w V H A G n a b c d :=
  ⟨h.env.below hb, h.hand.below hb, belowOn h.old hb, h.lo⟩
theorem NwW.world {w W : World} {H A G n : Nat} {a b c d : Int} (h : NwW w W H A G n a b c d) (hr : Right a b c d) (hn : (n : Int) = 5 + b + d + b * c + 3 * a) (he : Env w) {R : Nat} (hR : MtAt W R b.toNat (fun _ => Mu.zero) (fun _ => .slice none 0 0)) (h1 : w.heap.size ≤ R) (h2 : R ≠ H ∧ R ≠ A ∧ R ≠ G) (P : List (List Opn)) :
    WoAt (W.alloc (.cells #[.pointer (some ⟨H, 0, none⟩), .slice (some ⟨R, 0, none⟩) b.toNat b.toNat, .int .i64 1, .int .i64 0, .int .i64 0, .int .i64 0, .int .u64 0, .int .u64 0, .bool false, .int .i64 (a - 1), .int .i64 0] 76)) ⟨H, A, G, R, W.heap.size, b.toNat, w.heap.size, W.heap.size + 1⟩ ⟨n, a, b, c, d⟩ (WsK a b c d P 0) := by
  have hb := below_new W (.cells #[.pointer (some ⟨H, 0, none⟩), .slice (some ⟨R, 0, none⟩) b.toNat b.toNat, .int .i64 1, .int .i64 0, .int .i64 0, .int .i64 0, .int .u64 0, .int .u64 0, .bool false, .int .i64 (a - 1), .int .i64 0] 76)
  have g := h.hand
  have l1 := g.lt; have l2 := g.ar.lt; have l3 := g.ar.row.lt; have l4 := hR.lt
  have hbc : 0 ≤ b * c := Int.mul_nonneg (by have := hr.2.2.1; omega) (by have := hr.2.2.2.2.1; omega)
  have hlo := h.lo; have hsz := h.old.size
  refine ⟨h.env.below hb, he.lo, by simp, ⟨⟨by dsimp only; omega, by dsimp only; omega⟩, ⟨by dsimp only; omega, by dsimp only; omega⟩, ⟨by dsimp only; omega, by dsimp only; omega⟩, ⟨by dsimp only; omega, by dsimp only; omega⟩, ⟨by dsimp only; omega, by dsimp only; omega⟩, h2.1, h2.2.1, h2.2.2, by dsimp only; omega, by dsimp only; omega, by dsimp only; omega, by dsimp only; omega⟩, by dsimp only; have := hr.2.2.1; omega, hr, by
    have h1 := hr.1; have h3 := hr.2.2.1; have h5 := hr.2.2.2.2.2.2.1
    dsimp only; omega, ⟨0, 0, 0, 0, 0, g.below hb⟩, newBlock W _, _, hR.other (hb.block _ l4), fun i _ => ⟨none, 0, rfl, Nat.le_refl _, .inl rfl⟩⟩
end Go.Proofs.YtbpooljohjkbjaaGreatDoor
/- New that tells an error. -/
namespace Go.Proofs.YtbpooljohjkbjaaGreatDoor
open Go Go.RowKit
set_option maxRecDepth 100000
attribute [local go_sem ↓] Go.wp_at_zero Go.wp_at_succ
theorem wnew_no (a b c d : Int) (hr : ¬ Right a b c d) {w : World} (he : Env w) (va : Option Addr) (n cap : Nat) :
    Calls Tryz.prog 10 #[.agg #[.int .i64 a, .int .i64 b, .int .i64 c, .int .i64 d], .slice va n cap] w fun e w' => e = .returned (.tuple #[.pointer none, .int .i64 2]) ∧ Below w.heap.size w w' := by
  have HS := Lib.hid he
  have HX := Lib.hid (BoxAt.new w a b c d 23)
  have HB := Lib.hid (below_new w (.cells #[.int .i64 a, .int .i64 b, .int .i64 c, .int .i64 d] 23))
  have HE1 := Lib.hid (he.below (below_new w (.cells #[.int .i64 a, .int .i64 b, .int .i64 c, .int .i64 d] 23)))
  have HN := Lib.hid (fun W (h : SpansAt W) => New_no a b c d hr W h)
  clear he hr
  obtain ⟨x0, x1, x2, x3⟩ := HX.out
  go_enter Tryz.func10, Tryz.ntmps10
  go_wp2_with fail
  refine (HN.out _ HE1.out.1).mono ?_
  rintro e V ⟨rfl, hb⟩
  have HB2 := Lib.hid (belowOn HB.out hb)
  go_wp2_with fail
  refine bodyPost_ret (v := .tuple #[.pointer none, .int .i64 2]) (by simp [results, Tryz.f10, go_sem]) rfl ?_
  exact ⟨rfl, HB2.out⟩
theorem wnew_many (a b c d : Int) (hr : Right a b c d) {w : World} (he : Env w) (va : Option Addr) (n cap : Nat) (hn : b < (n : Int)) :
    Calls Tryz.prog 10 #[.agg #[.int .i64 a, .int .i64 b, .int .i64 c, .int .i64 d], .slice va n cap] w fun e w' => e = .returned (.tuple #[.pointer none, .int .i64 1]) ∧ Below w.heap.size w w' := by
  have HS := Lib.hid he
  have HX := Lib.hid (BoxAt.new w a b c d 23)
  have HB := Lib.hid (below_new w (.cells #[.int .i64 a, .int .i64 b, .int .i64 c, .int .i64 d] 23))
  have HE1 := Lib.hid (he.below (below_new w (.cells #[.int .i64 a, .int .i64 b, .int .i64 c, .int .i64 d] 23)))
  have HN := Lib.hid (fun W (h : SpansAt W) => New_yes a b c d hr W h)
  have dn : decide (b < (n : Int)) = true := decide_eq_true hn
  clear he hr hn
  obtain ⟨x0, x1, x2, x3⟩ := HX.out
  go_enter Tryz.func10, Tryz.ntmps10
  go_wp2_with fail
  refine (HN.out _ HE1.out.1).mono ?_
  rintro e V ⟨nn, _, H, A, G, rfl, _, hb, _⟩
  have HB2 := Lib.hid (belowOn HB.out hb)
  have HX2 := Lib.hid (HX.out.below hb)
  clear hb HX x0 x1 x2 x3
  obtain ⟨x0, x1, x2, x3⟩ := HX2.out
  go_wp2_with fail
  refine bodyPost_ret (v := .tuple #[.pointer none, .int .i64 1]) (by simp [results, Tryz.f10, go_sem]) rfl ?_
  exact ⟨rfl, HB2.out⟩
end Go.Proofs.YtbpooljohjkbjaaGreatDoor
/- New: a world. -/
namespace Go.Proofs.YtbpooljohjkbjaaGreatDoor
open Go Go.RowKit
set_option maxRecDepth 100000
attribute [local go_sem ↓] Go.wp_at_zero Go.wp_at_succ
theorem Below.old_set {B R : Nat} (h : B ≤ R) (W : World) (j : Nat) (v : Value) : Below B W (W.setCell ⟨R, j, none⟩ v) :=
  ⟨rfl, rfl, rfl, by simp [World.setCell], fun k hk => Below.heap_setCell _ _ _ _ (by show k ≠ R; omega)⟩
set_option maxHeartbeats 12800000 in
theorem wnew_yes (a c d : Int) (B : Nat) (hr : Right a (B : Int) c d) {w : World} (he : Env w) {va : Option Addr} {cap : Nat} {P : List (List Opn)} (hP : PrsSl w (.slice va P.length cap) P) (hPl : ∀ L ∈ P, L.length ≤ 4398046511104) (hn : (P.length : Int) ≤ (B : Int)) :
    Calls Tryz.prog 10 #[.agg #[.int .i64 a, .int .i64 (B : Int), .int .i64 c, .int .i64 d], .slice va P.length cap] w fun e w' => ∃ (q : WoK) (nn : Nat), e = .returned (.tuple #[.pointer (some ⟨q.B, 0, none⟩), .int .i64 0]) ∧ (nn : Int) = 5 + B + d + B * c + 3 * a ∧ WoAt w' q ⟨nn, a, B, c, d⟩ (Ws0 a B c d P) ∧ Below w.heap.size w w' ∧ w.heap.size ≤ q.lo := by
  have HS := Lib.hid he
  have HX := Lib.hid (BoxAt.new w a (B : Int) c d 23)
  have HB := Lib.hid (below_new w (.cells #[.int .i64 a, .int .i64 (B : Int), .int .i64 c, .int .i64 d] 23))
  have HE1 := Lib.hid (he.below (below_new w (.cells #[.int .i64 a, .int .i64 (B : Int), .int .i64 c, .int .i64 d] 23)))
  have HP := Lib.hid hP; have HPl := Lib.hid hPl
  have HN := Lib.hid (fun W (h : SpansAt W) => New_yes a (B : Int) c d hr W h)
  have hB1 : B ≤ 63 := by have := hr.2.2.2.1; omega
  have HBg := Lib.hid (fun W => Begin19_c a (B : Int) c d (by have := hr.1; have := hr.2.1; omega) W)
  have hmk := make_mutators B (by omega)
  have HRt := Lib.hid hr
  have hBn : ((B : Int)).toNat = B := Int.toNat_natCast B
  have dn : decide ((B : Int) < (P.length : Int)) = false := decide_eq_false (by omega)
  clear he hr hP hPl
  obtain ⟨x0, x1, x2, x3⟩ := HX.out
  go_enter Tryz.func10, Tryz.ntmps10
  go_wp2_with fail
  refine (HN.out _ HE1.out.1).mono ?_
  rintro e V ⟨nn, hnn, H, A, G, rfl, hh, hb, hlo⟩
  have HnE := Lib.hid hnn
  have HNw : Hid (NwW w V H A G nn a (B : Int) c d) := Lib.hid ⟨HE1.out.below hb, hh, belowOn HB.out hb, by have hs := HB.out.size; omega⟩
  have HX2 := Lib.hid (HX.out.below hb)
  clear hb HX x0 x1 x2 x3 HN HE1 HB hnn hh hlo
  have HX := HX2
  clear HX2
  obtain ⟨x0, x1, x2, x3⟩ := HX.out
  go_upto_region 6 with fail
  have HNd := Lib.hid (HNw.out.below (Below.refl _ _).drew)
  have HXd := Lib.hid (HX.out.below (Below.refl _ _).drew)
  clear x0 x1 x2 x3
  obtain ⟨x0, x1, x2, x3⟩ := HXd.out
  refine wp_region_held_drew (S := (fun w' => w'.cell? ⟨w.heap.size, 0, none⟩ = some (.int .i64 a) ∧ w'.cell? ⟨w.heap.size, 1, none⟩ = some (.int .i64 (B : Int)) ∧ w'.cell? ⟨w.heap.size, 2, none⟩ = some (.int .i64 c) ∧ w'.cell? ⟨w.heap.size, 3, none⟩ = some (.int .i64 d))) (by kernel_rfl) ?_ (fun hHeld => ?_)
  · exact ⟨x0, x1, x2, x3⟩
  refine tk 0 rfl hHeld ?_
  refine tk 1 rfl hHeld ?_
  refine tk 2 rfl hHeld ?_
  refine tk 4 rfl hHeld ?_
  refine wpAnyH_ready (rs := [3, 5]) (by kernel_rfl) (by simp) ?_
  refine AllReadyH.cons (o := _) rfl (fun K hK => ?_) ?_
  · go_simp
    have HM := Lib.hid ((mutators_made V B).other (w' := (V.alloc (.cells (madeCells zM14 (B * 14)) 79)).drew) rfl)
    have HNw2 := Lib.hid (HNw.out.below (below_new V (.cells (madeCells zM14 (B * 14)) 79)).drew)
    have HX2 := Lib.hid (HX.out.below (below_new V (.cells (madeCells zM14 (B * 14)) 79)).drew)
    have hRs : V.heap.size ≠ H ∧ V.heap.size ≠ A ∧ V.heap.size ≠ G := ⟨fun e => by have := HNw.out.hand.lt; omega, fun e => by have := HNw.out.hand.ar.lt; omega, fun e => by have := HNw.out.hand.ar.row.lt; omega⟩
    have hRl : w.heap.size ≤ V.heap.size := HNw.out.old.size
    clear hHeld x0 x1 x2 x3 HX HNw hmk HNd HXd
    generalize (V.alloc (.cells (madeCells zM14 (B * 14)) 79)).drew = V2 at *
    generalize V.heap.size = R at *
    have HX := HX2
    have HNw := HNw2
    clear HX2 HNw2
    obtain ⟨x0, x1, x2, x3⟩ := HX.out
    refine hK.out _ _ ?_ (fun hHeld => ?_)
    · exact ⟨x0, x1, x2, x3⟩
    clear hK K
    try simp only [Act.put, List.setIfInBounds_toArray, List.set_cons_zero, List.set_cons_succ]
    refine wpAnyH_ready (rs := [5]) (by kernel_rfl) (by simp) ?_
    refine AllReadyH.cons (o := _) rfl (fun K hK => ?_) AllReadyH.nil
    go_simp
    refine (HBg.out _).mono ?_
    rintro e V3 ⟨rfl, hb⟩
    have HM2 := Lib.hid (HM.out.other (hb.block _ HM.out.lt))
    have HNw2 := Lib.hid (HNw.out.below hb)
    have HX2 := Lib.hid (HX.out.below hb)
    clear hHeld x0 x1 x2 x3 HX HNw HM hb HBg
    have HX := HX2
    have HNw := HNw2
    have HM := HM2
    clear HX2 HNw2 HM2
    obtain ⟨x0, x1, x2, x3⟩ := HX.out
    refine hK.out _ _ ?_ (fun hHeld => ?_)
    · exact ⟨x0, x1, x2, x3⟩
    clear hK K
    try simp only [Act.put, List.setIfInBounds_toArray, List.set_cons_zero, List.set_cons_succ]
    refine tk 6 rfl hHeld ?_
    refine wpAnyH_ready (rs := [7]) (by kernel_rfl) (by simp) ?_
    refine AllReadyH.cons (o := _) rfl (fun K hK => ?_) AllReadyH.nil
    go_simp
    have HWo' := HNw.out.world HRt.out HnE.out HS.out (hBn.symm ▸ HM.out) hRl hRs P
    rw [hBn] at HWo'
    have HWo := Lib.hid HWo'
    have HOld := Lib.hid (belowOn HNw.out.old (below_new V3 (.cells #[.pointer (some ⟨H, 0, none⟩), .slice (some ⟨R, 0, none⟩) B B, .int .i64 1, .int .i64 0, .int .i64 0, .int .i64 0, .int .u64 0, .int .u64 0, .bool false, .int .i64 (a - 1), .int .i64 0] 76)))
    have HX2 := Lib.hid (HX.out.below (below_new V3 (.cells #[.pointer (some ⟨H, 0, none⟩), .slice (some ⟨R, 0, none⟩) B B, .int .i64 1, .int .i64 0, .int .i64 0, .int .i64 0, .int .u64 0, .int .u64 0, .bool false, .int .i64 (a - 1), .int .i64 0] 76)))
    clear hHeld x0 x1 x2 x3 HX HNw HM HWo'
    generalize V3.alloc (.cells #[.pointer (some ⟨H, 0, none⟩), .slice (some ⟨R, 0, none⟩) B B, .int .i64 1, .int .i64 0, .int .i64 0, .int .i64 0, .int .u64 0, .int .u64 0, .bool false, .int .i64 (a - 1), .int .i64 0] 76) = V4 at *
    generalize V3.heap.size = Q at *
    have HX := HX2
    clear HX2
    obtain ⟨x0, x1, x2, x3⟩ := HX.out
    refine hK.out _ _ ?_ (fun hHeld => ?_)
    · exact ⟨x0, x1, x2, x3⟩
    clear hK K
    try simp only [Act.put, List.setIfInBounds_toArray, List.set_cons_zero, List.set_cons_succ]
    refine tk 8 rfl hHeld ?_
    refine wpAnyH_done (by kernel_rfl) ?_ _
    clear hHeld x0 x1 x2 x3 HX
    obtain ⟨HI, hHI⟩ : ∃ HI, Q + 1 = HI := ⟨_, rfl⟩
    rw [hHI] at HWo
    go_upto_region 8 with fail
    go_loopw [34] (fun iv wr => ∃ (k hi9 : Nat), iv = .int .i64 k ∧ k ≤ P.length ∧ Hid (WoAt wr ⟨H, A, G, R, Q, B, w.heap.size, hi9⟩ ⟨nn, a, (B : Int), c, d⟩ (WsK a (B : Int) c d P k)) ∧ Hid (Below w.heap.size w wr)) (fun iv _ => P.length - (intOf iv).toNat)
    case atStart => exact ⟨0, HI, rfl, by omega, HWo, HOld⟩
    case round =>
      clear HWo HOld
      obtain ⟨k, hi9, rfl, hk, HW, HO⟩ := hrel
      by_cases hkl : k < P.length
      · have hk0 : (0 : Int) ≤ (k : Int) := by omega
        have hkI : (k : Int) < (P.length : Int) := by omega
        have hkB : (k : Int) < (B : Int) := by omega
        have dk : decide ((k : Int) < (P.length : Int)) = true := decide_eq_true hkI
        have hk1 : IntKind.i64.wrap ((k : Int) + 1) = (k : Int) + 1 := IntWalk.i64_in _ (by omega)
        obtain ⟨b0, off, rfl, hc⟩ : ∃ b0 off, va = some ⟨b0, off, none⟩ ∧ ∃ u, w.cell? ⟨b0, off + k, none⟩ = some u ∧ OpsSl w u P[k] := by
          obtain ⟨a', cap', e', hc⟩ := HP.out
          cases e'
          obtain ⟨b0, off, rfl, hc'⟩ := hc.resolve_left (by omega)
          exact ⟨b0, off, rfl, hc' k hkl⟩
        obtain ⟨u, hu, hs⟩ := hc
        have hOp : OpsSl wr u P[k] := hs.below HO.out
        have cu : wr.cell? ⟨b0, off + k, none⟩ = some u := (World.cell?_of_block (a := ⟨b0, off + k, none⟩) (HO.out.block b0 (lt_of_cell hu))).trans hu
        have HCl := Lib.hid (oclone_c (hOp.other (V := wr.drew) (fun _ _ _ => rfl)) (HPl.out _ (List.getElem_mem hkl)))
        have HEq := Lib.hid (WsK_succ a (B : Int) c d P hkl)
        obtain ⟨a3, cap3, rfl, _⟩ := hOp
        obtain ⟨l3, hl3⟩ : ∃ l3, (P[k]).length = l3 := ⟨_, rfl⟩
        rw [hl3] at cu HCl
        clear hu hs
        go_upto_region 10 with fail
        clear cu
        obtain ⟨_, b1, _⟩ := HW.out.drew.bk.cells
        dsimp only at b1
        refine wp_region_held_drew (S := (fun w' => w'.cell? ⟨Q, 1, none⟩ = some (.slice (some ⟨R, 0, none⟩) B B))) (by kernel_rfl) ?_ (fun hHeld => ?_)
        · exact b1
        refine tk 0 rfl hHeld ?_
        refine tk 1 rfl hHeld ?_
        refine tk 2 rfl hHeld ?_
        refine tk 3 rfl hHeld ?_
        refine tk 4 rfl hHeld ?_
        refine tk 5 rfl hHeld ?_
        refine wpAnyH_ready (rs := [6]) (by kernel_rfl) (by simp) ?_
        refine AllReadyH.cons (o := _) rfl (fun K hK => ?_) AllReadyH.nil
        go_simp
        refine HCl.out.mono ?_
        rintro e V6 ⟨v6, rfl, hb, hl⟩
        have hsz := hb.size
        have hhi := HW.out.hi
        have HW6 := Lib.hid ((HW.out.drew.below hb).raise (hi' := V6.heap.size) (by dsimp only at hhi ⊢; exact Nat.le_trans hhi hsz) (Nat.le_refl _))
        have HO6 := Lib.hid (belowOn HO.out.drew hb)
        have hlf : LfSl V6 (WoK.ops ⟨H, A, G, R, Q, B, w.heap.size, V6.heap.size⟩) v6 P[k] := by
          obtain ⟨a6, c6, e6, hc6, h6⟩ := hl
          refine ⟨a6, c6, e6, hc6, h6.imp id ?_⟩
          rintro ⟨b6, o6, e7, hq, h7⟩
          have n := HW.out.ne
          have l1 := n.h.2; have l2 := n.a.2; have l3' := n.g.2; have l4 := n.r.2; have l5 := n.b.2; have l6 := n.h.1
          dsimp only at l1 l2 l3' l4 l5 l6 hhi
          have hq1 : wr.heap.size ≤ b6 := hq.1
          refine ⟨b6, o6, e7, ⟨by dsimp only; omega, hq.2, ?_, ?_, ?_, ?_, ?_⟩, h7⟩ <;> dsimp only <;> omega
        have HZ' := HW6.out.setL k hlf
        rw [HEq.out] at HZ'
        have hrf : ∀ j, V6.frozen? ⟨R, j, none⟩ = false := by obtain ⟨lv, hmt, _⟩ := HW6.out.mt; exact fun j => World.rowIs.frozen hmt j
        obtain ⟨ao, co, hco⟩ := HW6.out.leftV (m := k) (by dsimp only; omega)
        dsimp only at HZ' hco
        have HZ := Lib.hid HZ'
        obtain ⟨ac, cc, rfl, _⟩ := hl
        have HOZ := Lib.hid (HO6.out.trans (Below.old_set HW6.out.ne.r.1 V6 (k * 14 + 13) (.slice ac (P[k]).length cc)))
        clear hb hlf HZ' HCl HO HW hsz hhi b1 hHeld
        obtain ⟨_, b1, _⟩ := HW6.out.bk.cells
        dsimp only at b1
        have hbZ : (V6.setCell ⟨R, k * 14 + 13, none⟩ (.slice ac (P[k]).length cc)).cell? ⟨Q, 1, none⟩ = some (.slice (some ⟨R, 0, none⟩) B B) := (World.cell?_of_block (a := ⟨Q, 1, none⟩) (Below.heap_setCell _ _ _ _ HW6.out.ne.rb.symm)).trans b1
        have hbZ := Lib.hid hbZ
        rw [hl3] at HZ HOZ hbZ
        refine hK.out _ _ ?_ (fun hHeld => ?_)
        · exact b1
        clear hK K
        try simp only [Act.put, List.setIfInBounds_toArray, List.set_cons_zero, List.set_cons_succ]
        refine tk 7 rfl hHeld ?_
        refine tk 8 rfl hHeld ?_
        refine wpAnyH_ready (rs := [9]) (by kernel_rfl) (by simp) ?_
        refine AllReadyH.cons (o := _) rfl (fun K hK => ?_) AllReadyH.nil
        go_simp
        refine hK.out _ _ ?_ (fun hHeld => ?_)
        · exact hbZ.out
        clear hK K
        try simp only [Act.put, List.setIfInBounds_toArray, List.set_cons_zero, List.set_cons_succ]
        refine wpAnyH_done (by kernel_rfl) ?_ _
        clear hHeld b1 hbZ HW6 HO6 hrf hco
        generalize V6.setCell ⟨R, k * 14 + 13, none⟩ (.slice ac l3 cc) = V7 at *
        go_wp2_with fail
        go_roundw
        case rel => exact ⟨k + 1, V6.heap.size, by first | rfl | go_num, by omega, HZ, HOZ⟩
        case measure => simp [intOf]; omega
      · obtain rfl : k = P.length := by omega
        have dk : decide ((P.length : Int) < (P.length : Int)) = false := decide_eq_false (by omega)
        go_wp2_with fail
        refine bodyPost_ret (v := .tuple #[.pointer (some ⟨Q, 0, none⟩), .int .i64 0]) (by simp [results, Tryz.f10, go_sem]) rfl ?_
        exact ⟨_, nn, rfl, HnE.out, by rw [WsK_end] at HW; exact HW.out, HO.out, Nat.le_refl _⟩
  refine AllReadyH.cons (o := _) rfl (fun K hK => ?_) AllReadyH.nil
  go_simp
  refine (HBg.out _).mono ?_
  rintro e V3 ⟨rfl, hb⟩
  have HNw2 := Lib.hid (HNd.out.below hb)
  have HX2 := Lib.hid (HXd.out.below hb)
  clear hHeld x0 x1 x2 x3 HX HNw hb HBg HNd HXd
  have HX := HX2
  have HNw := HNw2
  clear HX2 HNw2
  obtain ⟨x0, x1, x2, x3⟩ := HX.out
  refine hK.out _ _ ?_ (fun hHeld => ?_)
  · exact ⟨x0, x1, x2, x3⟩
  clear hK K
  try simp only [Act.put, List.setIfInBounds_toArray, List.set_cons_zero, List.set_cons_succ]
  refine wpAnyH_ready (rs := [3]) (by kernel_rfl) (by simp) ?_
  refine AllReadyH.cons (o := _) rfl (fun K hK => ?_) AllReadyH.nil
  go_simp
  have HM := Lib.hid (mutators_made V3 B)
  have HNw2 := Lib.hid (HNw.out.below (below_new V3 (.cells (madeCells zM14 (B * 14)) 79)))
  have HX2 := Lib.hid (HX.out.below (below_new V3 (.cells (madeCells zM14 (B * 14)) 79)))
  have hRs : V3.heap.size ≠ H ∧ V3.heap.size ≠ A ∧ V3.heap.size ≠ G := ⟨fun e => by have := HNw.out.hand.lt; omega, fun e => by have := HNw.out.hand.ar.lt; omega, fun e => by have := HNw.out.hand.ar.row.lt; omega⟩
  have hRl : w.heap.size ≤ V3.heap.size := HNw.out.old.size
  clear hHeld x0 x1 x2 x3 HX HNw hmk
  generalize V3.alloc (.cells (madeCells zM14 (B * 14)) 79) = V2 at *
  generalize V3.heap.size = R at *
  have HX := HX2
  have HNw := HNw2
  clear HX2 HNw2
  obtain ⟨x0, x1, x2, x3⟩ := HX.out
  refine hK.out _ _ ?_ (fun hHeld => ?_)
  · exact ⟨x0, x1, x2, x3⟩
  clear hK K
  try simp only [Act.put, List.setIfInBounds_toArray, List.set_cons_zero, List.set_cons_succ]
  refine tk 6 rfl hHeld ?_
  refine wpAnyH_ready (rs := [7]) (by kernel_rfl) (by simp) ?_
  refine AllReadyH.cons (o := _) rfl (fun K hK => ?_) AllReadyH.nil
  go_simp
  have HWo' := HNw.out.world HRt.out HnE.out HS.out (hBn.symm ▸ HM.out) hRl hRs P
  rw [hBn] at HWo'
  have HWo := Lib.hid HWo'
  have HOld := Lib.hid (belowOn HNw.out.old (below_new V2 (.cells #[.pointer (some ⟨H, 0, none⟩), .slice (some ⟨R, 0, none⟩) B B, .int .i64 1, .int .i64 0, .int .i64 0, .int .i64 0, .int .u64 0, .int .u64 0, .bool false, .int .i64 (a - 1), .int .i64 0] 76)))
  have HX2 := Lib.hid (HX.out.below (below_new V2 (.cells #[.pointer (some ⟨H, 0, none⟩), .slice (some ⟨R, 0, none⟩) B B, .int .i64 1, .int .i64 0, .int .i64 0, .int .i64 0, .int .u64 0, .int .u64 0, .bool false, .int .i64 (a - 1), .int .i64 0] 76)))
  clear hHeld x0 x1 x2 x3 HX HNw HM HWo'
  generalize V2.alloc (.cells #[.pointer (some ⟨H, 0, none⟩), .slice (some ⟨R, 0, none⟩) B B, .int .i64 1, .int .i64 0, .int .i64 0, .int .i64 0, .int .u64 0, .int .u64 0, .bool false, .int .i64 (a - 1), .int .i64 0] 76) = V4 at *
  generalize V2.heap.size = Q at *
  have HX := HX2
  clear HX2
  obtain ⟨x0, x1, x2, x3⟩ := HX.out
  refine hK.out _ _ ?_ (fun hHeld => ?_)
  · exact ⟨x0, x1, x2, x3⟩
  clear hK K
  try simp only [Act.put, List.setIfInBounds_toArray, List.set_cons_zero, List.set_cons_succ]
  refine tk 8 rfl hHeld ?_
  refine wpAnyH_done (by kernel_rfl) ?_ _
  clear hHeld x0 x1 x2 x3 HX
  obtain ⟨HI, hHI⟩ : ∃ HI, Q + 1 = HI := ⟨_, rfl⟩
  rw [hHI] at HWo
  go_upto_region 8 with fail
  go_loopw [34] (fun iv wr => ∃ (k hi9 : Nat), iv = .int .i64 k ∧ k ≤ P.length ∧ Hid (WoAt wr ⟨H, A, G, R, Q, B, w.heap.size, hi9⟩ ⟨nn, a, (B : Int), c, d⟩ (WsK a (B : Int) c d P k)) ∧ Hid (Below w.heap.size w wr)) (fun iv _ => P.length - (intOf iv).toNat)
  case atStart => exact ⟨0, HI, rfl, by omega, HWo, HOld⟩
  case round =>
    clear HWo HOld
    obtain ⟨k, hi9, rfl, hk, HW, HO⟩ := hrel
    by_cases hkl : k < P.length
    · have hk0 : (0 : Int) ≤ (k : Int) := by omega
      have hkI : (k : Int) < (P.length : Int) := by omega
      have hkB : (k : Int) < (B : Int) := by omega
      have dk : decide ((k : Int) < (P.length : Int)) = true := decide_eq_true hkI
      have hk1 : IntKind.i64.wrap ((k : Int) + 1) = (k : Int) + 1 := IntWalk.i64_in _ (by omega)
      obtain ⟨b0, off, rfl, hc⟩ : ∃ b0 off, va = some ⟨b0, off, none⟩ ∧ ∃ u, w.cell? ⟨b0, off + k, none⟩ = some u ∧ OpsSl w u P[k] := by
        obtain ⟨a', cap', e', hc⟩ := HP.out
        cases e'
        obtain ⟨b0, off, rfl, hc'⟩ := hc.resolve_left (by omega)
        exact ⟨b0, off, rfl, hc' k hkl⟩
      obtain ⟨u, hu, hs⟩ := hc
      have hOp : OpsSl wr u P[k] := hs.below HO.out
      have cu : wr.cell? ⟨b0, off + k, none⟩ = some u := (World.cell?_of_block (a := ⟨b0, off + k, none⟩) (HO.out.block b0 (lt_of_cell hu))).trans hu
      have HCl := Lib.hid (oclone_c (hOp.other (V := wr.drew) (fun _ _ _ => rfl)) (HPl.out _ (List.getElem_mem hkl)))
      have HEq := Lib.hid (WsK_succ a (B : Int) c d P hkl)
      obtain ⟨a3, cap3, rfl, _⟩ := hOp
      obtain ⟨l3, hl3⟩ : ∃ l3, (P[k]).length = l3 := ⟨_, rfl⟩
      rw [hl3] at cu HCl
      clear hu hs
      go_upto_region 10 with fail
      clear cu
      obtain ⟨_, b1, _⟩ := HW.out.drew.bk.cells
      dsimp only at b1
      refine wp_region_held_drew (S := (fun w' => w'.cell? ⟨Q, 1, none⟩ = some (.slice (some ⟨R, 0, none⟩) B B))) (by kernel_rfl) ?_ (fun hHeld => ?_)
      · exact b1
      refine tk 0 rfl hHeld ?_
      refine tk 1 rfl hHeld ?_
      refine tk 2 rfl hHeld ?_
      refine tk 3 rfl hHeld ?_
      refine tk 4 rfl hHeld ?_
      refine tk 5 rfl hHeld ?_
      refine wpAnyH_ready (rs := [6]) (by kernel_rfl) (by simp) ?_
      refine AllReadyH.cons (o := _) rfl (fun K hK => ?_) AllReadyH.nil
      go_simp
      refine HCl.out.mono ?_
      rintro e V6 ⟨v6, rfl, hb, hl⟩
      have hsz := hb.size
      have hhi := HW.out.hi
      have HW6 := Lib.hid ((HW.out.drew.below hb).raise (hi' := V6.heap.size) (by dsimp only at hhi ⊢; exact Nat.le_trans hhi hsz) (Nat.le_refl _))
      have HO6 := Lib.hid (belowOn HO.out.drew hb)
      have hlf : LfSl V6 (WoK.ops ⟨H, A, G, R, Q, B, w.heap.size, V6.heap.size⟩) v6 P[k] := by
        obtain ⟨a6, c6, e6, hc6, h6⟩ := hl
        refine ⟨a6, c6, e6, hc6, h6.imp id ?_⟩
        rintro ⟨b6, o6, e7, hq, h7⟩
        have n := HW.out.ne
        have l1 := n.h.2; have l2 := n.a.2; have l3' := n.g.2; have l4 := n.r.2; have l5 := n.b.2; have l6 := n.h.1
        dsimp only at l1 l2 l3' l4 l5 l6 hhi
        have hq1 : wr.heap.size ≤ b6 := hq.1
        refine ⟨b6, o6, e7, ⟨by dsimp only; omega, hq.2, ?_, ?_, ?_, ?_, ?_⟩, h7⟩ <;> dsimp only <;> omega
      have HZ' := HW6.out.setL k hlf
      rw [HEq.out] at HZ'
      have hrf : ∀ j, V6.frozen? ⟨R, j, none⟩ = false := by obtain ⟨lv, hmt, _⟩ := HW6.out.mt; exact fun j => World.rowIs.frozen hmt j
      obtain ⟨ao, co, hco⟩ := HW6.out.leftV (m := k) (by dsimp only; omega)
      dsimp only at HZ' hco
      have HZ := Lib.hid HZ'
      obtain ⟨ac, cc, rfl, _⟩ := hl
      have HOZ := Lib.hid (HO6.out.trans (Below.old_set HW6.out.ne.r.1 V6 (k * 14 + 13) (.slice ac (P[k]).length cc)))
      clear hb hlf HZ' HCl HO HW hsz hhi b1 hHeld
      obtain ⟨_, b1, _⟩ := HW6.out.bk.cells
      dsimp only at b1
      have hbZ : (V6.setCell ⟨R, k * 14 + 13, none⟩ (.slice ac (P[k]).length cc)).cell? ⟨Q, 1, none⟩ = some (.slice (some ⟨R, 0, none⟩) B B) := (World.cell?_of_block (a := ⟨Q, 1, none⟩) (Below.heap_setCell _ _ _ _ HW6.out.ne.rb.symm)).trans b1
      have hbZ := Lib.hid hbZ
      rw [hl3] at HZ HOZ hbZ
      refine hK.out _ _ ?_ (fun hHeld => ?_)
      · exact b1
      clear hK K
      try simp only [Act.put, List.setIfInBounds_toArray, List.set_cons_zero, List.set_cons_succ]
      refine tk 7 rfl hHeld ?_
      refine tk 8 rfl hHeld ?_
      refine wpAnyH_ready (rs := [9]) (by kernel_rfl) (by simp) ?_
      refine AllReadyH.cons (o := _) rfl (fun K hK => ?_) AllReadyH.nil
      go_simp
      refine hK.out _ _ ?_ (fun hHeld => ?_)
      · exact hbZ.out
      clear hK K
      try simp only [Act.put, List.setIfInBounds_toArray, List.set_cons_zero, List.set_cons_succ]
      refine wpAnyH_done (by kernel_rfl) ?_ _
      clear hHeld b1 hbZ HW6 HO6 hrf hco
      generalize V6.setCell ⟨R, k * 14 + 13, none⟩ (.slice ac l3 cc) = V7 at *
      go_wp2_with fail
      go_roundw
      case rel => exact ⟨k + 1, V6.heap.size, by first | rfl | go_num, by omega, HZ, HOZ⟩
      case measure => simp [intOf]; omega
    · obtain rfl : k = P.length := by omega
      have dk : decide ((P.length : Int) < (P.length : Int)) = false := decide_eq_false (by omega)
      go_wp2_with fail
      refine bodyPost_ret (v := .tuple #[.pointer (some ⟨Q, 0, none⟩), .int .i64 0]) (by simp [results, Tryz.f10, go_sem]) rfl ?_
      exact ⟨_, nn, rfl, HnE.out, by rw [WsK_end] at HW; exact HW.out, HO.out, Nat.le_refl _⟩
end Go.Proofs.YtbpooljohjkbjaaGreatDoor
/- What the document tells: a world that is picked five times. -/
namespace Go.Proofs.YtbpooljohjkbjaaGreatDoor
open Go Go.RowKit
set_option maxRecDepth 100000
attribute [local go_sem ↓] Go.wp_at_zero Go.wp_at_succ
theorem awake_run : (runS ⟨13, 2, 1, 1, 0⟩ (Ws0 2 1 1 0 [[⟨1, 0, 5, 0⟩]]) [0, 0, 0, 0, 0]).2 = [⟨0, 1, 1, 0, 5, 0, 0⟩, ⟨0, 2, 1, 0, 5, 0, 0⟩, ⟨0, 3, 1, 0, 5, 0, 1⟩] := by decide +kernel
theorem ws0_B {a b c d : Int} (hr : Right a b c d) {P : List (List Opn)} (hP : ∀ L ∈ P, ∀ o ∈ L, o.B) : WsB 0 (Ws0 a b c d P) := by
  refine ⟨fun j => fst_u64 hr j, fun _ => Mu.zero_B, fun m o ho => ?_, ⟨u64_zero, u64_zero⟩, ⟨by simp [Ws0], by simp [Ws0], by simp [Ws0], by simp [Ws0]⟩⟩
  unfold Ws0 at ho
  dsimp only at ho
  cases h : P[m]? with
  | none => rw [h] at ho; simp at ho
  | some L => rw [h] at ho; exact hP L (List.mem_of_getElem? h) o ho
theorem RuW.old {w W V : World} {q : WoK} {C : Cf} {S : Ws} {v : Value} {L : List Nt} (h : RuW W V q C S v L) (hb : Below w.heap.size w W) (hl : w.heap.size ≤ q.lo) : Below w.heap.size w V :=
  hb.trans (h.sav.below hb.size (fun k hk e => e.elim (fun e => by have := e.1; omega) (fun e => by have := hb.size; omega)))
set_option maxHeartbeats 3200000 in
theorem wawake_c {w : World} (he : Env w) : Calls Tryz.prog 8 #[] w fun e w' => e = .returned (.bool true) ∧ Below w.heap.size w w' := by
  have hr : Right 2 1 1 0 := by unfold Right; omega
  have hb2 := below_on (below_new w (.cells #[.int .i64 1, .int .i64 0, .int .i64 5, .int .i64 0] 58)) (.cells #[.slice (some ⟨w.heap.size, 0, none⟩) 1 1] 65)
  have hz1 : (w.alloc (.cells #[.int .i64 1, .int .i64 0, .int .i64 5, .int .i64 0] 58)).heap.size = w.heap.size + 1 := by simp
  have hO1 : OpAt (w.alloc (.cells #[.int .i64 1, .int .i64 0, .int .i64 5, .int .i64 0] 58)) w.heap.size 0 ⟨1, 0, 5, 0⟩ := op_new w ⟨1, 0, 5, 0⟩
  have hO2 := hO1.other ((below_new (w.alloc (.cells #[.int .i64 1, .int .i64 0, .int .i64 5, .int .i64 0] 58)) (.cells #[.slice (some ⟨w.heap.size, 0, none⟩) 1 1] 65)).block _ hO1.lt)
  have hu : ((w.alloc (.cells #[.int .i64 1, .int .i64 0, .int .i64 5, .int .i64 0] 58)).alloc (.cells #[.slice (some ⟨w.heap.size, 0, none⟩) 1 1] 65)).cell? ⟨w.heap.size + 1, 0, none⟩ = some (.slice (some ⟨w.heap.size, 0, none⟩) 1 1) := by
    have := newBlock (w.alloc (.cells #[.int .i64 1, .int .i64 0, .int .i64 5, .int .i64 0] 58)) (.cells #[.slice (some ⟨w.heap.size, 0, none⟩) 1 1] 65)
    rw [hz1] at this
    generalize (w.alloc (.cells #[.int .i64 1, .int .i64 0, .int .i64 5, .int .i64 0] 58)).alloc (.cells #[.slice (some ⟨w.heap.size, 0, none⟩) 1 1] 65) = X at *
    simp [World.cell?, this]
  have hP : PrsSl ((w.alloc (.cells #[.int .i64 1, .int .i64 0, .int .i64 5, .int .i64 0] 58)).alloc (.cells #[.slice (some ⟨w.heap.size, 0, none⟩) 1 1] 65)) (.slice (some ⟨w.heap.size + 1, 0, none⟩) 1 1) [[⟨1, 0, 5, 0⟩]] := by
    refine ⟨_, 1, rfl, .inr ⟨w.heap.size + 1, 0, rfl, fun k hk => ?_⟩⟩
    obtain rfl : k = 0 := by simp at hk; omega
    refine ⟨_, hu, _, 1, rfl, .inr ⟨w.heap.size, 0, rfl, fun k hk => ?_⟩⟩
    obtain rfl : k = 0 := by simp at hk; omega
    exact hO2
  have HN := Lib.hid (wnew_yes 2 1 0 1 hr (he.below hb2) (P := [[⟨1, 0, 5, 0⟩]]) (cap := 1) hP (by simp) (by simp))
  have HB := Lib.hid hb2
  have hopB : ∀ L ∈ ([[⟨1, 0, 5, 0⟩]] : List (List Opn)), ∀ o ∈ L, o.B := fun L hL o ho => by
    rw [List.mem_singleton.1 hL] at ho
    rw [List.mem_singleton.1 ho]
    show iI 1 ∧ iI 0 ∧ iI 5 ∧ iI 0
    unfold iI
    omega
  have HR : Hid (∀ (V : World) (q : WoK) (nn : Nat), (nn : Int) = 5 + ((1 : Nat) : Int) + 0 + ((1 : Nat) : Int) * 1 + 3 * 2 → WoAt V q ⟨nn, 2, ((1 : Nat) : Int), 1, 0⟩ (Ws0 2 ((1 : Nat) : Int) 1 0 [[⟨1, 0, 5, 0⟩]]) → Calls Tryz.prog 13 #[.pointer (some ⟨q.B, 0, none⟩), .slice (some ⟨V.heap.size, 0, none⟩) 5 5] (V.alloc (.cells #[.int .i64 0, .int .i64 0, .int .i64 0, .int .i64 0, .int .i64 0] 3)) fun e w' => ∃ (S : Ws) (nv : Value), e = .returned nv ∧ RuW (V.alloc (.cells #[.int .i64 0, .int .i64 0, .int .i64 0, .int .i64 0, .int .i64 0] 3)) w' q ⟨nn, 2, ((1 : Nat) : Int), 1, 0⟩ S nv [⟨0, 1, 1, 0, 5, 0, 0⟩, ⟨0, 2, 1, 0, 5, 0, 0⟩, ⟨0, 3, 1, 0, 5, 0, 1⟩]) := Lib.hid (fun V q nn hnn hW => by
    obtain rfl : nn = 13 := by omega
    have hI : IntsSl (V.alloc (.cells #[.int .i64 0, .int .i64 0, .int .i64 0, .int .i64 0, .int .i64 0] 3)) (.slice (some ⟨V.heap.size, 0, none⟩) 5 5) [0, 0, 0, 0, 0] := by
      have hb := newBlock V (.cells #[.int .i64 0, .int .i64 0, .int .i64 0, .int .i64 0, .int .i64 0] 3)
      generalize V.alloc (.cells #[.int .i64 0, .int .i64 0, .int .i64 0, .int .i64 0, .int .i64 0] 3) = X at *
      generalize V.heap.size = B at *
      refine ⟨_, 5, rfl, .inr ⟨B, 0, rfl, fun k hk => ?_⟩⟩
      rcases (by simp at hk; omega : k = 0 ∨ k = 1 ∨ k = 2 ∨ k = 3 ∨ k = 4) with rfl | rfl | rfl | rfl | rfl <;> simp [World.cell?, hb]
    have h := wrun_c (P := [0, 0, 0, 0, 0]) (hW.below (below_new V (.cells #[.int .i64 0, .int .i64 0, .int .i64 0, .int .i64 0, .int .i64 0] 3))) (ws0_B hr hopB) (Int.le_refl 0) (by simp) hI (fun _ b off e => by cases e; exact .inr hW.hi)
    refine h.mono ?_
    rintro e w' ⟨nv, rfl, hR⟩
    rw [show (runS ⟨13, 2, ((1 : Nat) : Int), 1, 0⟩ (Ws0 2 ((1 : Nat) : Int) 1 0 [[⟨1, 0, 5, 0⟩]]) [0, 0, 0, 0, 0]).2 = _ from awake_run] at hR
    exact ⟨_, nv, rfl, hR⟩)
  clear he hb2 hO1 hO2 hu hP hopB hr
  go_enter Tryz.func8, Tryz.ntmps8
  go_wp2_with fail
  refine HN.out.mono ?_
  rintro e V ⟨q, nn, rfl, hnn, hW, hb, hlo⟩
  have HR2 := Lib.hid (HR.out V q nn hnn hW)
  have hbV := belowOn HB.out hb
  have HBV := Lib.hid (below_on hbV (.cells #[.int .i64 0, .int .i64 0, .int .i64 0, .int .i64 0, .int .i64 0] 3))
  have HLo : Hid (w.heap.size ≤ q.lo) := Lib.hid (Nat.le_trans HB.out.size hlo)
  clear HR hnn hW hb hlo hbV HN HB
  go_wp2_with fail
  refine HR2.out.mono ?_
  rintro e V2 ⟨S, nv, rfl, hR⟩
  have HB2 := Lib.hid (hR.old HBV.out HLo.out)
  obtain ⟨a, cap, rfl, h⟩ := hR.row.nts.1
  obtain ⟨b, off, rfl, hc⟩ := h.resolve_left (by simp)
  obtain ⟨_, n1, _⟩ := hc 0 (by simp)
  obtain ⟨_, m1, _⟩ := hc 1 (by simp)
  obtain ⟨_, o1, _, _, _, _, o6⟩ := hc 2 (by simp)
  simp at n1 m1 o1 o6
  clear hc h hR HR2 HBV
  go_wp2_with fail
  go_ret
  exact ⟨rfl, HB2.out⟩
end Go.Proofs.YtbpooljohjkbjaaGreatDoor
