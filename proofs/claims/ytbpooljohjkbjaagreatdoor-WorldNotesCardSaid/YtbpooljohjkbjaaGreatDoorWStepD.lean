/- A mutator's step of the world. -/
import Derived.Test.YtbpooljohjkbjaaGreatDoorM1
import Derived.Test.YtbpooljohjkbjaaGreatDoorM6
namespace Go.Proofs.YtbpooljohjkbjaaGreatDoor
open Go Go.RowKit
set_option maxRecDepth 100000
attribute [local go_sem ↓] Go.wp_at_zero Go.wp_at_succ
set_option maxHeartbeats 12800000 in
theorem st_tt {w : World} {q : WoK} {C : Cf} {S : Ws} (h : WoAt w q C S) {m : Nat} (hm : m < q.n) {x : Mu} (hx : S.mu m = x) {an : Option Addr} {ln cn : Nat} {L : List Nt} {base : Nat} (hn : NtR w base (.slice an ln cn) L) (hL : L.length ≤ 1) (h1 : q.hi ≤ base) (h2 : base ≤ w.heap.size) {s' : Dy} {yl yq1 yq2 yq3 yq4 ym1 ym2 ym3 ym4 ym5 yp ybk yrt : Int}
    (hst : ∀ W s, HAt W q.H q.A q.G C s → SpansAt W → s.f = S.f → Calls Tryz.prog 46 #[.pointer (some ⟨q.H, 0, none⟩), .int .i64 (m : Int), x.v] W (HP W q.H q.A q.G C s' (.tuple #[.agg #[.int .i64 yl, .int .i64 yq1, .int .i64 yq2, .int .i64 yq3, .int .i64 yq4, .int .u64 ym1, .int .u64 ym2, .int .u64 ym3, .int .u64 ym4, .int .u64 ym5, .int .u64 yp, .int .i64 ybk, .int .i64 yrt], .bool true, .bool true]))) :
    Calls Tryz.prog 32 #[.pointer (some ⟨q.B, 0, none⟩), .int .i64 (m : Int), .slice an ln cn] w fun e w' => ∃ v, e = .returned v ∧ EvV base w' v (Ev.of s' (L ++ mutNts m x.op ⟨yl, yq1, yq2, yq3, yq4, ym1, ym2, ym3, ym4, ym5, yp, ybk, yrt⟩ true true)) ∧ WoAt w' q C ⟨s'.f, upn S.mu m (if true then Mu.zero else ⟨yl, yq1, yq2, yq3, yq4, ym1, ym2, ym3, ym4, ym5, yp, ybk, yrt⟩), S.lf, S.x⟩ ∧ Sav (Ib q base) w w' := by
  obtain ⟨s, hs, h0⟩ := St0.start h hn h1 h2
  obtain ⟨i7, hi7, hz0, hz1, hz2⟩ := info_parts infoNote
  have HL : Hid (∀ W, St0 w W q C S s w.heap.size base (.slice an ln cn) L → Calls Tryz.prog 46 #[.pointer (some ⟨q.H, 0, none⟩), .int .i64 (m : Int), .agg #[.int .i64 x.l, .int .i64 x.q1, .int .i64 x.q2, .int .i64 x.q3, .int .i64 x.q4, .int .u64 x.m1, .int .u64 x.m2, .int .u64 x.m3, .int .u64 x.m4, .int .u64 x.m5, .int .u64 x.p, .int .i64 x.bk, .int .i64 x.rt]] W (HP W q.H q.A q.G C s' (.tuple #[.agg #[.int .i64 yl, .int .i64 yq1, .int .i64 yq2, .int .i64 yq3, .int .i64 yq4, .int .u64 ym1, .int .u64 ym2, .int .u64 ym3, .int .u64 ym4, .int .u64 ym5, .int .u64 yp, .int .i64 ybk, .int .i64 yrt], .bool true, .bool true]))) := Lib.hid (fun W h => hst W s h.ha h.wo.env.1 hs)
  have HSn := Lib.hid h0
  have HS0 := Lib.hid h0.drew
  have hm0 : (0 : Int) ≤ (m : Int) := by omega
  have hmn : (m : Int) < (q.n : Int) := by omega
  obtain ⟨b0, b1, _⟩ := h0.wo.bk.cells
  have HF : Hid (∀ W, Calls Tryz.prog 47 #[.agg #[.int .i64 yl, .int .i64 yq1, .int .i64 yq2, .int .i64 yq3, .int .i64 yq4, .int .u64 ym1, .int .u64 ym2, .int .u64 ym3, .int .u64 ym4, .int .u64 ym5, .int .u64 yp, .int .i64 ybk, .int .i64 yrt]] W fun e w' => e = .returned (.int .i64 (if yrt = 5 then 5 else 0)) ∧ Below W.heap.size W w') := Lib.hid (fun W => wFull_c ⟨yl, yq1, yq2, yq3, yq4, ym1, ym2, ym3, ym4, ym5, yp, ybk, yrt⟩ W)
  clear h hn hst h0 hs
  generalize hfn : (if yrt = 5 then (5 : Int) else 0) = fn at *
  go_enter Tryz.func32, Tryz.ntmps32
  go_upto_region 2 with fail
  generalize w.alloc (.cells #[.bool false, .int .i64 0, .int .i64 0, .int .u64 0, .int .u64 0, .int .u64 0, .slice none 0 0] 41) = w1 at *
  clear b0 b1
  obtain ⟨s0, s1, s2, s3, s4, s5, s6, s7, s8, s9, s10, s11, s12, s13⟩ := HS0.out.wo.stS hm hx
  refine wp_region_held_drew (S := (fun w' => w'.cell? ⟨q.B, 0, none⟩ = some (.pointer (some ⟨q.H, 0, none⟩)) ∧ w'.cell? ⟨q.R, m * 14, none⟩ = some (.int .i64 x.l) ∧ w'.cell? ⟨q.R, m * 14 + 1, none⟩ = some (.int .i64 x.q1) ∧ w'.cell? ⟨q.R, m * 14 + 2, none⟩ = some (.int .i64 x.q2) ∧ w'.cell? ⟨q.R, m * 14 + 3, none⟩ = some (.int .i64 x.q3) ∧ w'.cell? ⟨q.R, m * 14 + 4, none⟩ = some (.int .i64 x.q4) ∧ w'.cell? ⟨q.R, m * 14 + 5, none⟩ = some (.int .u64 x.m1) ∧ w'.cell? ⟨q.R, m * 14 + 6, none⟩ = some (.int .u64 x.m2) ∧ w'.cell? ⟨q.R, m * 14 + 7, none⟩ = some (.int .u64 x.m3) ∧ w'.cell? ⟨q.R, m * 14 + 8, none⟩ = some (.int .u64 x.m4) ∧ w'.cell? ⟨q.R, m * 14 + 9, none⟩ = some (.int .u64 x.m5) ∧ w'.cell? ⟨q.R, m * 14 + 10, none⟩ = some (.int .u64 x.p) ∧ w'.cell? ⟨q.R, m * 14 + 11, none⟩ = some (.int .i64 x.bk) ∧ w'.cell? ⟨q.R, m * 14 + 12, none⟩ = some (.int .i64 x.rt))) (by kernel_rfl) ?_ (fun hHeld => ?_)
  · exact ⟨s0, s1, s2, s3, s4, s5, s6, s7, s8, s9, s10, s11, s12, s13⟩
  refine tk 0 rfl hHeld ?_
  refine tk 1 rfl hHeld ?_
  refine tk 2 rfl hHeld ?_
  refine tk 3 rfl hHeld ?_
  refine tk 4 rfl hHeld ?_
  refine tk 5 rfl hHeld ?_
  refine tk 6 rfl hHeld ?_
  refine tk 7 rfl hHeld ?_
  refine tk 8 rfl hHeld ?_
  refine wpAnyH_ready (rs := [9, 14]) (by kernel_rfl) (by simp) ?_
  refine AllReadyH.cons (o := _) rfl (fun K hK => ?zz) ?_
  case' zz =>
    go_simp
    refine (HL.out _ HS0.out).mono ?_
    rintro e V hp
    obtain ⟨rfl, hS⟩ := HS0.out.step hp
    have HS1 := Lib.hid hS
    clear hp hS HL HS0 hHeld s0 s1 s2 s3 s4 s5 s6 s7 s8 s9 s10 s11 s12 s13
    obtain ⟨s0, s1, s2, s3, s4, s5, s6, s7, s8, s9, s10, s11, s12, s13⟩ := HS1.out.wo.stS hm hx
    refine hK.out _ _ ?_ (fun hHeld => ?_)
    · exact ⟨s0, s1, s2, s3, s4, s5, s6, s7, s8, s9, s10, s11, s12, s13⟩
    clear hK K
    try simp only [Act.put, List.setIfInBounds_toArray, List.set_cons_zero, List.set_cons_succ]
    refine tk 10 rfl hHeld ?_
    refine tk 11 rfl hHeld ?_
    refine tk 12 rfl hHeld ?_
    refine tk 13 rfl hHeld ?_
    refine wpAnyH_ready (rs := [14]) (by kernel_rfl) (by simp) ?_
    refine AllReadyH.cons (o := _) rfl (fun K hK => ?_) AllReadyH.nil
    go_simp
    have HT1 := Lib.hid (HS1.out.new ⟨0, 0, 0, 0, 0, 0, 0, 0, 0, 0, 0, 0, 0⟩)
    clear HS1 hHeld s0 s1 s2 s3 s4 s5 s6 s7 s8 s9 s10 s11 s12 s13
    generalize V.alloc (.cells #[.int .i64 0, .int .i64 0, .int .i64 0, .int .i64 0, .int .i64 0, .int .u64 0, .int .u64 0, .int .u64 0, .int .u64 0, .int .u64 0, .int .u64 0, .int .i64 0, .int .i64 0] 60) = V2 at *
    generalize V.heap.size = Kb at *
    obtain ⟨k0, k1, k2, k3, k4, k5, k6, k7, k8, k9, k10, k11, k12, kf⟩ := HT1.out.mu.cells
    obtain ⟨s0, s1, s2, s3, s4, s5, s6, s7, s8, s9, s10, s11, s12, s13⟩ := HT1.out.st.wo.stS hm hx
    refine hK.out _ _ ?_ (fun hHeld => ?_)
    · exact ⟨s0, s1, s2, s3, s4, s5, s6, s7, s8, s9, s10, s11, s12, s13⟩
    clear hK K
    try simp only [Act.put, List.setIfInBounds_toArray, List.set_cons_zero, List.set_cons_succ]
    refine wpAnyH_ready (rs := [15]) (by kernel_rfl) (by simp) ?_
    refine AllReadyH.cons (o := _) rfl (fun K hK => ?_) AllReadyH.nil
    go_simp
    have HT0' := HT1.out.putK ⟨yl, yq1, yq2, yq3, yq4, ym1, ym2, ym3, ym4, ym5, yp, ybk, yrt⟩
    dsimp only [put13] at HT0'
    have HT := Lib.hid HT0'
    clear HT0'
    clear HT1 hHeld k0 k1 k2 k3 k4 k5 k6 k7 k8 k9 k10 k11 k12 kf s0 s1 s2 s3 s4 s5 s6 s7 s8 s9 s10 s11 s12 s13
    generalize (((((((((((((V2.setCell ⟨Kb, 0, none⟩ (.int .i64 yl)).setCell ⟨Kb, 1, none⟩ (.int .i64 yq1)).setCell ⟨Kb, 2, none⟩ (.int .i64 yq2)).setCell ⟨Kb, 3, none⟩ (.int .i64 yq3)).setCell ⟨Kb, 4, none⟩ (.int .i64 yq4)).setCell ⟨Kb, 5, none⟩ (.int .u64 ym1)).setCell ⟨Kb, 6, none⟩ (.int .u64 ym2)).setCell ⟨Kb, 7, none⟩ (.int .u64 ym3)).setCell ⟨Kb, 8, none⟩ (.int .u64 ym4)).setCell ⟨Kb, 9, none⟩ (.int .u64 ym5)).setCell ⟨Kb, 10, none⟩ (.int .u64 yp)).setCell ⟨Kb, 11, none⟩ (.int .i64 ybk)).setCell ⟨Kb, 12, none⟩ (.int .i64 yrt)) = W3 at *
    obtain ⟨s0, s1, s2, s3, s4, s5, s6, s7, s8, s9, s10, s11, s12, s13⟩ := HT.out.st.wo.stS hm hx
    refine hK.out _ _ ?_ (fun hHeld => ?_)
    · exact ⟨s0, s1, s2, s3, s4, s5, s6, s7, s8, s9, s10, s11, s12, s13⟩
    clear hK K
    try simp only [Act.put, List.setIfInBounds_toArray, List.set_cons_zero, List.set_cons_succ]
    refine tk 16 rfl hHeld ?_
    refine tk 17 rfl hHeld ?_
    refine wpAnyH_done (by kernel_rfl) ?_ _
  rotate_left
  refine AllReadyH.cons (o := _) rfl (fun K hK => ?_) AllReadyH.nil
  go_simp
  have HT0 := Lib.hid (HSn.out.new ⟨0, 0, 0, 0, 0, 0, 0, 0, 0, 0, 0, 0, 0⟩).drew
  clear HS0 hHeld HSn s0 s1 s2 s3 s4 s5 s6 s7 s8 s9 s10 s11 s12 s13
  generalize (w1.alloc (.cells #[.int .i64 0, .int .i64 0, .int .i64 0, .int .i64 0, .int .i64 0, .int .u64 0, .int .u64 0, .int .u64 0, .int .u64 0, .int .u64 0, .int .u64 0, .int .i64 0, .int .i64 0] 60)).drew = w2 at *
  generalize w1.heap.size = Kb at *
  obtain ⟨s0, s1, s2, s3, s4, s5, s6, s7, s8, s9, s10, s11, s12, s13⟩ := HT0.out.st.wo.stS hm hx
  refine hK.out _ _ ?_ (fun hHeld => ?_)
  · exact ⟨s0, s1, s2, s3, s4, s5, s6, s7, s8, s9, s10, s11, s12, s13⟩
  clear hK K
  try simp only [Act.put, List.setIfInBounds_toArray, List.set_cons_zero, List.set_cons_succ]
  refine wpAnyH_ready (rs := [9]) (by kernel_rfl) (by simp) ?_
  refine AllReadyH.cons (o := _) rfl (fun K hK => ?_) AllReadyH.nil
  go_simp
  refine (HL.out _ HT0.out.st).mono ?_
  rintro e V hp
  obtain ⟨rfl, hS⟩ := HT0.out.step hp
  have HT1 := Lib.hid hS
  clear hp hS HL HT0 hHeld s0 s1 s2 s3 s4 s5 s6 s7 s8 s9 s10 s11 s12 s13
  obtain ⟨k0, k1, k2, k3, k4, k5, k6, k7, k8, k9, k10, k11, k12, kf⟩ := HT1.out.mu.cells
  obtain ⟨s0, s1, s2, s3, s4, s5, s6, s7, s8, s9, s10, s11, s12, s13⟩ := HT1.out.st.wo.stS hm hx
  refine hK.out _ _ ?_ (fun hHeld => ?_)
  · exact ⟨s0, s1, s2, s3, s4, s5, s6, s7, s8, s9, s10, s11, s12, s13⟩
  clear hK K
  try simp only [Act.put, List.setIfInBounds_toArray, List.set_cons_zero, List.set_cons_succ]
  refine tk 10 rfl hHeld ?_
  refine tk 11 rfl hHeld ?_
  refine tk 12 rfl hHeld ?_
  refine tk 13 rfl hHeld ?_
  refine wpAnyH_ready (rs := [15]) (by kernel_rfl) (by simp) ?_
  refine AllReadyH.cons (o := _) rfl (fun K hK => ?_) AllReadyH.nil
  go_simp
  have HT0' := HT1.out.putK ⟨yl, yq1, yq2, yq3, yq4, ym1, ym2, ym3, ym4, ym5, yp, ybk, yrt⟩
  dsimp only [put13] at HT0'
  have HT := Lib.hid HT0'
  clear HT0'
  clear HT1 hHeld k0 k1 k2 k3 k4 k5 k6 k7 k8 k9 k10 k11 k12 kf s0 s1 s2 s3 s4 s5 s6 s7 s8 s9 s10 s11 s12 s13
  generalize (((((((((((((V.setCell ⟨Kb, 0, none⟩ (.int .i64 yl)).setCell ⟨Kb, 1, none⟩ (.int .i64 yq1)).setCell ⟨Kb, 2, none⟩ (.int .i64 yq2)).setCell ⟨Kb, 3, none⟩ (.int .i64 yq3)).setCell ⟨Kb, 4, none⟩ (.int .i64 yq4)).setCell ⟨Kb, 5, none⟩ (.int .u64 ym1)).setCell ⟨Kb, 6, none⟩ (.int .u64 ym2)).setCell ⟨Kb, 7, none⟩ (.int .u64 ym3)).setCell ⟨Kb, 8, none⟩ (.int .u64 ym4)).setCell ⟨Kb, 9, none⟩ (.int .u64 ym5)).setCell ⟨Kb, 10, none⟩ (.int .u64 yp)).setCell ⟨Kb, 11, none⟩ (.int .i64 ybk)).setCell ⟨Kb, 12, none⟩ (.int .i64 yrt)) = W3 at *
  obtain ⟨s0, s1, s2, s3, s4, s5, s6, s7, s8, s9, s10, s11, s12, s13⟩ := HT.out.st.wo.stS hm hx
  refine hK.out _ _ ?_ (fun hHeld => ?_)
  · exact ⟨s0, s1, s2, s3, s4, s5, s6, s7, s8, s9, s10, s11, s12, s13⟩
  clear hK K
  try simp only [Act.put, List.setIfInBounds_toArray, List.set_cons_zero, List.set_cons_succ]
  refine tk 16 rfl hHeld ?_
  refine tk 17 rfl hHeld ?_
  refine wpAnyH_done (by kernel_rfl) ?_ _
  all_goals
    clear hHeld s0 s1 s2 s3 s4 s5 s6 s7 s8 s9 s10 s11 s12 s13
    try clear HSn
    have yn := HT.out.EK
    go_upto_region 4 with fail
    have HTd := Lib.hid HT.out.drew
    obtain ⟨t0, t1, t2, t3, t4, t5, t6, t7, t8, t9, t10, t11, t12, t13, t14, t15, t16⟩ := HTd.out.see hm hx
    clear HT
    refine wp_region_held_drew (S := (fun w' => w'.cell? ⟨q.R, m * 14 + 1, none⟩ = some (.int .i64 x.q1) ∧ w'.cell? ⟨q.R, m * 14 + 2, none⟩ = some (.int .i64 x.q2) ∧ w'.cell? ⟨q.R, m * 14 + 3, none⟩ = some (.int .i64 x.q3) ∧ w'.cell? ⟨q.R, m * 14 + 4, none⟩ = some (.int .i64 x.q4) ∧ w'.cell? ⟨Kb, 0, none⟩ = some (.int .i64 yl) ∧ w'.cell? ⟨Kb, 1, none⟩ = some (.int .i64 yq1) ∧ w'.cell? ⟨Kb, 2, none⟩ = some (.int .i64 yq2) ∧ w'.cell? ⟨Kb, 3, none⟩ = some (.int .i64 yq3) ∧ w'.cell? ⟨Kb, 4, none⟩ = some (.int .i64 yq4) ∧ w'.cell? ⟨Kb, 5, none⟩ = some (.int .u64 ym1) ∧ w'.cell? ⟨Kb, 6, none⟩ = some (.int .u64 ym2) ∧ w'.cell? ⟨Kb, 7, none⟩ = some (.int .u64 ym3) ∧ w'.cell? ⟨Kb, 8, none⟩ = some (.int .u64 ym4) ∧ w'.cell? ⟨Kb, 9, none⟩ = some (.int .u64 ym5) ∧ w'.cell? ⟨Kb, 10, none⟩ = some (.int .u64 yp) ∧ w'.cell? ⟨Kb, 11, none⟩ = some (.int .i64 ybk) ∧ w'.cell? ⟨Kb, 12, none⟩ = some (.int .i64 yrt))) (by kernel_rfl) ?_ (fun hHeld => ?_)
    · exact ⟨t0, t1, t2, t3, t4, t5, t6, t7, t8, t9, t10, t11, t12, t13, t14, t15, t16⟩
    refine tk 0 rfl hHeld ?_
    refine tk 1 rfl hHeld ?_
    refine tk 2 rfl hHeld ?_
    refine tk 3 rfl hHeld ?_
    refine tk 4 rfl hHeld ?_
    refine tk 5 rfl hHeld ?_
    refine tk 6 rfl hHeld ?_
    refine tk 7 rfl hHeld ?_
    refine wpAnyH_ready (rs := [8]) (by kernel_rfl) (by simp) ?_
    refine AllReadyH.cons (o := _) rfl (fun K hK => ?_) AllReadyH.nil
    go_simp
    refine (HF.out _).mono ?_
    rintro e V4 ⟨rfl, hb⟩
    have HB1 := Lib.hid (HTd.out.below hb)
    clear hb HTd hHeld t0 t1 t2 t3 t4 t5 t6 t7 t8 t9 t10 t11 t12 t13 t14 t15 t16
    obtain ⟨t0, t1, t2, t3, t4, t5, t6, t7, t8, t9, t10, t11, t12, t13, t14, t15, t16⟩ := HB1.out.see hm hx
    refine hK.out _ _ ?_ (fun hHeld => ?_)
    · exact ⟨t0, t1, t2, t3, t4, t5, t6, t7, t8, t9, t10, t11, t12, t13, t14, t15, t16⟩
    clear hK K
    try simp only [Act.put, List.setIfInBounds_toArray, List.set_cons_zero, List.set_cons_succ]
    refine tk 9 rfl hHeld ?_
    refine wpAnyH_ready (rs := [10]) (by kernel_rfl) (by simp) ?_
    refine AllReadyH.cons (o := _) rfl (fun K hK => ?_) AllReadyH.nil
    go_simp
    have HB2 := Lib.hid (HB1.out.below (below_new V4 (.cells #[.int .i64 (m : Int), .int .i64 2, .int .i64 x.q1, .int .i64 x.q2, .int .i64 x.q3, .int .i64 x.q4, .int .i64 fn] 68)))
    have HNW : Hid (∀ j u, (ntC ⟨(m : Int), 2, x.q1, x.q2, x.q3, x.q4, fn⟩)[j]? = some u → (V4.alloc (.cells #[.int .i64 (m : Int), .int .i64 2, .int .i64 x.q1, .int .i64 x.q2, .int .i64 x.q3, .int .i64 x.q4, .int .i64 fn] 68)).cell? ((⟨V4.heap.size, 0, none⟩ : Addr).add j) = some u) := Lib.hid (nt_news V4 ⟨(m : Int), 2, x.q1, x.q2, x.q3, x.q4, fn⟩)
    clear HB1 hHeld t0 t1 t2 t3 t4 t5 t6 t7 t8 t9 t10 t11 t12 t13 t14 t15 t16
    generalize (V4.alloc (.cells #[.int .i64 (m : Int), .int .i64 2, .int .i64 x.q1, .int .i64 x.q2, .int .i64 x.q3, .int .i64 x.q4, .int .i64 fn] 68)) = V5 at *
    generalize V4.heap.size = T at *
    obtain ⟨t0, t1, t2, t3, t4, t5, t6, t7, t8, t9, t10, t11, t12, t13, t14, t15, t16⟩ := HB2.out.see hm hx
    refine hK.out _ _ ?_ (fun hHeld => ?_)
    · exact ⟨t0, t1, t2, t3, t4, t5, t6, t7, t8, t9, t10, t11, t12, t13, t14, t15, t16⟩
    clear hK K
    try simp only [Act.put, List.setIfInBounds_toArray, List.set_cons_zero, List.set_cons_succ]
    refine wpAnyH_ready (rs := [11]) (by kernel_rfl) (by simp) ?_
    refine AllReadyH.cons (o := _) rfl (fun K hK => ?_) AllReadyH.nil
    refine step_append_lies _ (by rfl) _ _ _ (by rfl) base 68 i7 _ 7 56 Tryz.underlying39 hi7 hz0 hz1 hz2 rfl (by omega) (.slice an ln cn) L.length (ntsV L) (by rfl) HB2.out.st.row ⟨T, 0, none⟩ 1 1 (ntC ⟨(m : Int), 2, x.q1, x.q2, x.q3, x.q4, fn⟩) (by rfl) (by rfl) HNW.out (by have := ntsV_one [⟨(m : Int), 2, x.q1, x.q2, x.q3, x.q4, fn⟩]; simpa [ntsV] using this) (by omega) (by unfold maxLen; omega) (by omega) HB2.out.base_le _ rfl ?_
    intro g3 cap3 V3 hown hgrow hat _
    have H3 := Lib.hid (HB2.out.app hgrow hown (hat.imp id (fun e => by omega)))
    clear hown hgrow hat HNW HB2 hHeld t0 t1 t2 t3 t4 t5 t6 t7 t8 t9 t10 t11 t12 t13 t14 t15 t16
    obtain ⟨t0, t1, t2, t3, t4, t5, t6, t7, t8, t9, t10, t11, t12, t13, t14, t15, t16⟩ := H3.out.see hm hx
    refine hK.out _ _ ?_ (fun hHeld => ?_)
    · exact ⟨t0, t1, t2, t3, t4, t5, t6, t7, t8, t9, t10, t11, t12, t13, t14, t15, t16⟩
    clear hK K
    try simp only [Act.put, List.setIfInBounds_toArray, List.set_cons_zero, List.set_cons_succ]
    refine tk 12 rfl hHeld ?_
    refine wpAnyH_done (by kernel_rfl) ?_ _
    clear hHeld t0 t1 t2 t3 t4 t5 t6 t7 t8 t9 t10 t11 t12 t13 t14 t15 t16
    have hl3 : (L ++ ([⟨(m : Int), 2, x.q1, x.q2, x.q3, x.q4, fn⟩] : List Nt)).length = L.length + 1 := by simp
    obtain ⟨M, hM⟩ : ∃ M, L ++ ([⟨(m : Int), 2, x.q1, x.q2, x.q3, x.q4, fn⟩] : List Nt) = M := ⟨_, rfl⟩
    rw [hM] at H3 hl3
    go_upto_region 6 with fail
    have HTd := H3
    clear H3
    obtain ⟨t0, t1, t2, t3, t4, t5, t6, t7, t8, t9, t10, t11, t12, t13, t14, t15, t16⟩ := HTd.out.drew.see hm hx
    refine wp_region_held_drew (S := (fun w' => w'.cell? ⟨q.R, m * 14 + 1, none⟩ = some (.int .i64 x.q1) ∧ w'.cell? ⟨q.R, m * 14 + 2, none⟩ = some (.int .i64 x.q2) ∧ w'.cell? ⟨q.R, m * 14 + 3, none⟩ = some (.int .i64 x.q3) ∧ w'.cell? ⟨q.R, m * 14 + 4, none⟩ = some (.int .i64 x.q4) ∧ w'.cell? ⟨Kb, 0, none⟩ = some (.int .i64 yl) ∧ w'.cell? ⟨Kb, 1, none⟩ = some (.int .i64 yq1) ∧ w'.cell? ⟨Kb, 2, none⟩ = some (.int .i64 yq2) ∧ w'.cell? ⟨Kb, 3, none⟩ = some (.int .i64 yq3) ∧ w'.cell? ⟨Kb, 4, none⟩ = some (.int .i64 yq4) ∧ w'.cell? ⟨Kb, 5, none⟩ = some (.int .u64 ym1) ∧ w'.cell? ⟨Kb, 6, none⟩ = some (.int .u64 ym2) ∧ w'.cell? ⟨Kb, 7, none⟩ = some (.int .u64 ym3) ∧ w'.cell? ⟨Kb, 8, none⟩ = some (.int .u64 ym4) ∧ w'.cell? ⟨Kb, 9, none⟩ = some (.int .u64 ym5) ∧ w'.cell? ⟨Kb, 10, none⟩ = some (.int .u64 yp) ∧ w'.cell? ⟨Kb, 11, none⟩ = some (.int .i64 ybk) ∧ w'.cell? ⟨Kb, 12, none⟩ = some (.int .i64 yrt))) (by kernel_rfl) ?_ (fun hHeld => ?_)
    · exact ⟨t0, t1, t2, t3, t4, t5, t6, t7, t8, t9, t10, t11, t12, t13, t14, t15, t16⟩
    refine tk 0 rfl hHeld ?_
    refine tk 1 rfl hHeld ?_
    refine tk 2 rfl hHeld ?_
    refine tk 3 rfl hHeld ?_
    refine tk 4 rfl hHeld ?_
    refine tk 5 rfl hHeld ?_
    refine tk 6 rfl hHeld ?_
    refine tk 7 rfl hHeld ?_
    refine tk 8 rfl hHeld ?_
    refine tk 9 rfl hHeld ?_
    refine wpAnyH_ready (rs := [10]) (by kernel_rfl) (by simp) ?_
    refine AllReadyH.cons (o := _) rfl (fun K hK => ?_) AllReadyH.nil
    go_simp
    have HB2 := Lib.hid (HTd.out.below (below_new V3 (.cells #[.int .i64 (m : Int), .int .i64 3, .int .i64 x.q1, .int .i64 x.q2, .int .i64 x.q3, .int .i64 x.q4, .int .i64 yrt] 68))).drew
    have HNW : Hid (∀ j u, (ntC ⟨(m : Int), 3, x.q1, x.q2, x.q3, x.q4, yrt⟩)[j]? = some u → (V3.alloc (.cells #[.int .i64 (m : Int), .int .i64 3, .int .i64 x.q1, .int .i64 x.q2, .int .i64 x.q3, .int .i64 x.q4, .int .i64 yrt] 68)).drew.cell? ((⟨V3.heap.size, 0, none⟩ : Addr).add j) = some u) := Lib.hid (nt_news V3 ⟨(m : Int), 3, x.q1, x.q2, x.q3, x.q4, yrt⟩)
    clear HTd hHeld t0 t1 t2 t3 t4 t5 t6 t7 t8 t9 t10 t11 t12 t13 t14 t15 t16
    generalize (V3.alloc (.cells #[.int .i64 (m : Int), .int .i64 3, .int .i64 x.q1, .int .i64 x.q2, .int .i64 x.q3, .int .i64 x.q4, .int .i64 yrt] 68)).drew = V5 at *
    generalize V3.heap.size = T at *
    obtain ⟨t0, t1, t2, t3, t4, t5, t6, t7, t8, t9, t10, t11, t12, t13, t14, t15, t16⟩ := HB2.out.see hm hx
    refine hK.out _ _ ?_ (fun hHeld => ?_)
    · exact ⟨t0, t1, t2, t3, t4, t5, t6, t7, t8, t9, t10, t11, t12, t13, t14, t15, t16⟩
    clear hK K
    try simp only [Act.put, List.setIfInBounds_toArray, List.set_cons_zero, List.set_cons_succ]
    refine wpAnyH_ready (rs := [11]) (by kernel_rfl) (by simp) ?_
    refine AllReadyH.cons (o := _) rfl (fun K hK => ?_) AllReadyH.nil
    refine step_append_lies _ (by rfl) _ _ _ (by rfl) base 68 i7 _ 7 56 Tryz.underlying39 hi7 hz0 hz1 hz2 rfl (by omega) (.slice (some ⟨g3, 0, none⟩) (L.length + 1) cap3) M.length (ntsV M) (by rfl) HB2.out.st.row ⟨T, 0, none⟩ 1 1 (ntC ⟨(m : Int), 3, x.q1, x.q2, x.q3, x.q4, yrt⟩) (by rfl) (by rfl) HNW.out (by have := ntsV_one [⟨(m : Int), 3, x.q1, x.q2, x.q3, x.q4, yrt⟩]; simpa [ntsV] using this) (by omega) (by unfold maxLen; omega) (by omega) HB2.out.base_le _ rfl ?_
    intro g6 cap6 V6 hown hgrow hat _
    have H6 := Lib.hid (HB2.out.app hgrow hown (hat.imp id (fun e => by omega)))
    clear hown hgrow hat HNW HB2 hHeld hl3 hL t0 t1 t2 t3 t4 t5 t6 t7 t8 t9 t10 t11 t12 t13 t14 t15 t16
    obtain ⟨t0, t1, t2, t3, t4, t5, t6, t7, t8, t9, t10, t11, t12, t13, t14, t15, t16⟩ := H6.out.see hm hx
    refine hK.out _ _ ?_ (fun hHeld => ?_)
    · exact ⟨t0, t1, t2, t3, t4, t5, t6, t7, t8, t9, t10, t11, t12, t13, t14, t15, t16⟩
    clear hK K
    try simp only [Act.put, List.setIfInBounds_toArray, List.set_cons_zero, List.set_cons_succ]
    refine tk 12 rfl hHeld ?_
    refine wpAnyH_done (by kernel_rfl) ?_ _
    clear hHeld t0 t1 t2 t3 t4 t5 t6 t7 t8 t9 t10 t11 t12 t13 t14 t15 t16
    obtain ⟨s0, s1, s2, s3, s4, s5, s6, s7, s8, s9, s10, s11, s12, s13⟩ := H6.out.st.wo.stS hm hx
    clear s0
    obtain ⟨_, _, _, _, k0, k1, k2, k3, k4, k5, k6, k7, k8, k9, k10, k11, k12⟩ := H6.out.see hm hx
    dsimp only at k0 k1 k2 k3 k4 k5 k6 k7 k8 k9 k10 k11 k12
    have bf := H6.out.fro
    have rf := H6.out.froR
    go_upto_region 8 with fail
    have HZ' := H6.out.putK ⟨0, 0, 0, 0, 0, 0, 0, 0, 0, 0, 0, 0, 0⟩
    dsimp only [put13] at HZ'
    have HZ := Lib.hid HZ'
    clear HZ'
    clear s1 s2 s3 s4 s5 s6 s7 s8 s9 s10 s11 s12 s13 k0 k1 k2 k3 k4 k5 k6 k7 k8 k9 k10 k11 k12 bf rf H6
    generalize (((((((((((((V6.setCell ⟨Kb, 0, none⟩ (.int .i64 0)).setCell ⟨Kb, 1, none⟩ (.int .i64 0)).setCell ⟨Kb, 2, none⟩ (.int .i64 0)).setCell ⟨Kb, 3, none⟩ (.int .i64 0)).setCell ⟨Kb, 4, none⟩ (.int .i64 0)).setCell ⟨Kb, 5, none⟩ (.int .u64 0)).setCell ⟨Kb, 6, none⟩ (.int .u64 0)).setCell ⟨Kb, 7, none⟩ (.int .u64 0)).setCell ⟨Kb, 8, none⟩ (.int .u64 0)).setCell ⟨Kb, 9, none⟩ (.int .u64 0)).setCell ⟨Kb, 10, none⟩ (.int .u64 0)).setCell ⟨Kb, 11, none⟩ (.int .i64 0)).setCell ⟨Kb, 12, none⟩ (.int .i64 0)) = W7 at *
    obtain ⟨s0, s1, s2, s3, s4, s5, s6, s7, s8, s9, s10, s11, s12, s13⟩ := HZ.out.st.wo.stS hm hx
    clear s0
    obtain ⟨_, _, _, _, k0, k1, k2, k3, k4, k5, k6, k7, k8, k9, k10, k11, k12⟩ := HZ.out.see hm hx
    dsimp only at k0 k1 k2 k3 k4 k5 k6 k7 k8 k9 k10 k11 k12
    have bf := HZ.out.fro
    have rf := HZ.out.froR
    go_upto_region 9 with fail
    have HM' := HZ.out.st.putM m ⟨0, 0, 0, 0, 0, 0, 0, 0, 0, 0, 0, 0, 0⟩
    dsimp only [pW14] at HM'
    have HM := Lib.hid HM'
    clear HM'
    clear s1 s2 s3 s4 s5 s6 s7 s8 s9 s10 s11 s12 s13 k0 k1 k2 k3 k4 k5 k6 k7 k8 k9 k10 k11 k12 bf rf HZ
    generalize (((((((((((((W7.setCell ⟨q.R, m * 14, none⟩ (.int .i64 0)).setCell ⟨q.R, m * 14 + 1, none⟩ (.int .i64 0)).setCell ⟨q.R, m * 14 + 2, none⟩ (.int .i64 0)).setCell ⟨q.R, m * 14 + 3, none⟩ (.int .i64 0)).setCell ⟨q.R, m * 14 + 4, none⟩ (.int .i64 0)).setCell ⟨q.R, m * 14 + 5, none⟩ (.int .u64 0)).setCell ⟨q.R, m * 14 + 6, none⟩ (.int .u64 0)).setCell ⟨q.R, m * 14 + 7, none⟩ (.int .u64 0)).setCell ⟨q.R, m * 14 + 8, none⟩ (.int .u64 0)).setCell ⟨q.R, m * 14 + 9, none⟩ (.int .u64 0)).setCell ⟨q.R, m * 14 + 10, none⟩ (.int .u64 0)).setCell ⟨q.R, m * 14 + 11, none⟩ (.int .i64 0)).setCell ⟨q.R, m * 14 + 12, none⟩ (.int .i64 0)) = W8 at *
    obtain ⟨b0, _⟩ := HM.out.wo.bk.cells
    obtain ⟨_, _, a5, a6, a7, a8, a9, _⟩ := HM.out.ha.cells
    obtain ⟨v0, v1, v2, v3, v4, v5, v6, ef⟩ := HM.out.ev.cells
    have HFN' := HM.out.fin true s'.k s'.i s'.x s'.y s'.o
    dsimp only [putE] at HFN'
    have HFN := Lib.hid HFN'
    clear HFN' HM
    go_wp2_with fail
    obtain ⟨e0, e1, e2, e3, e4, e5, e6, _⟩ := HFN.out.1.cells
    refine bodyPost_ret (v := .agg #[.bool true, .int .i64 s'.k, .int .i64 s'.i, .int .u64 s'.x, .int .u64 s'.y, .int .u64 s'.o, (.slice (some ⟨g6, 0, none⟩) (M.length + 1) cap6)]) (by simp [results, Tryz.f32, go_sem, e0, e1, e2, e3, e4, e5, e6]) rfl ?_
    exact ⟨_, rfl, by rw [show L ++ mutNts (m : Int) x.op ⟨yl, yq1, yq2, yq3, yq4, ym1, ym2, ym3, ym4, ym5, yp, ybk, yrt⟩ true true = M ++ ([⟨(m : Int), 3, x.q1, x.q2, x.q3, x.q4, yrt⟩] : List Nt) by unfold mutNts ntOp Mu.op; rw [← hM, ← hfn, List.append_assoc]; rfl]; exact HFN.out.2.1, HFN.out.2.2.1, HFN.out.2.2.2⟩
end Go.Proofs.YtbpooljohjkbjaaGreatDoor
