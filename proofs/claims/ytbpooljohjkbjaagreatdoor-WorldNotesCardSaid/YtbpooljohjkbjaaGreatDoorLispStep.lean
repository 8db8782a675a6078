/- A line of whichever layer has it. -/
import Derived.Test.YtbpooljohjkbjaaGreatDoorLispAny
import Derived.Test.YtbpooljohjkbjaaGreatDoorGateStep
import Derived.Test.YtbpooljohjkbjaaGreatDoorM5
import Derived.Test.YtbpooljohjkbjaaGreatDoorBarRef
import Derived.Test.YtbpooljohjkbjaaGreatDoorM6
namespace Go.Proofs.YtbpooljohjkbjaaGreatDoor
open Go Go.RowKit
set_option maxRecDepth 100000
attribute [local go_sem ↓] Go.wp_at_zero Go.wp_at_succ
def isOwn (l : Int) : Bool := (ownK l).isSome
def stepR (C : Cf) (s : Dy) (m : Int) (x : Mu) : Dy × Mu × Bool × Bool :=
  if isGate x.l = true then ((gateS C s m x).1, (gateS C s m x).2.1, false, true)
  else if isTick x.l = true then ((tickS C s x).1, (tickS C s x).2.1, false, true)
  else if isBar x.l = true then ((barS C s x).1, (barS C s x).2.1, false, true)
  else if isPop x.l = true then ((popS C s x).1, (popS C s x).2.1, (popS C s x).2.2.1, true)
  else if isOwn x.l = true then ((ownS C s m x).1, (ownS C s m x).2.1, (ownS C s m x).2.2.1, true)
  else (s, x, false, false)
theorem gateS_yes {C : Cf} {s : Dy} {m : Int} {x : Mu} (h : isGate x.l = true) : (gateS C s m x).2.2 = true := by
  unfold isGate at h; simp at h
  unfold gateS
  repeat' split
  all_goals first | rfl | (exfalso; omega)
theorem gateS_no {C : Cf} {s : Dy} {m : Int} {x : Mu} (h : isGate x.l = false) : gateS C s m x = (s, x, false) := by
  unfold isGate at h; simp at h
  unfold gateS
  repeat' split
  all_goals first | rfl | (exfalso; omega)
theorem tickS_yes {C : Cf} {s : Dy} {x : Mu} (h : isTick x.l = true) : (tickS C s x).2.2 = true := by
  unfold isTick at h; simp at h
  unfold tickS
  repeat' split
  all_goals first | rfl | (exfalso; omega)
theorem tickS_no {C : Cf} {s : Dy} {x : Mu} (h : isTick x.l = false) : tickS C s x = (s, x, false) := by
  unfold isTick at h; simp at h
  unfold tickS
  repeat' split
  all_goals first | rfl | (exfalso; omega)
theorem barS_yes {C : Cf} {s : Dy} {x : Mu} (h : isBar x.l = true) : (barS C s x).2.2 = true := by
  unfold isBar at h; simp at h
  unfold barS
  repeat' split
  all_goals first | rfl | (exfalso; omega)
theorem barS_no {C : Cf} {s : Dy} {x : Mu} (h : isBar x.l = false) : barS C s x = (s, x, false) := by
  unfold isBar at h; simp at h
  unfold barS
  repeat' split
  all_goals first | rfl | (exfalso; omega)
theorem popS_yes {C : Cf} {s : Dy} {x : Mu} (h : isPop x.l = true) : (popS C s x).2.2.2 = true := by
  unfold isPop at h; simp at h
  unfold popS
  repeat' split
  all_goals first | rfl | (exfalso; omega)
theorem popS_no {C : Cf} {s : Dy} {x : Mu} (h : isPop x.l = false) : popS C s x = (s, x, false, false) := by
  unfold isPop at h; simp at h
  unfold popS
  repeat' split
  all_goals first | rfl | (exfalso; omega)
theorem WkAt.new {w : World} {H A G : Nat} {C : Cf} {s : Dy} (h : HAt w H A G C s) (m : Int) (x : Mu) : WkAt (w.alloc (.cells #[.pointer (some ⟨H, 0, none⟩), .int .i64 x.l, .int .i64 x.q1, .int .i64 x.q2, .int .i64 x.q3, .int .i64 x.q4, .int .u64 x.m1, .int .u64 x.m2, .int .u64 x.m3, .int .u64 x.m4, .int .u64 x.m5, .int .u64 x.p, .int .i64 x.bk, .int .i64 x.rt, .int .i64 m] 172)) w.heap.size H A G C m s x := by
  have h1 := h.lt; have h2 := h.ar.lt; have h3 := h.ar.row.lt
  exact ⟨newBlock w _, h.below (below_new w _), by omega, by omega, by omega⟩
theorem Sav.thenW {w W W' : World} {H G B : Nat} (h : Sav (HG H G) w W) (hB : w.heap.size ≤ B) (h2 : Sav (WS H G B) W W') : Sav (HG H G) w W' := by
  have h3 : Sav (WS H G B) w W' := (hgWS h).trans h2
  exact ⟨h3.os, h3.tape, h3.output, h3.size, fun k hk hn => h3.block k hk (fun e => e.elim hn (fun e => by omega))⟩
set_option maxHeartbeats 6400000 in
theorem step_any {w : World} {H A G : Nat} {C : Cf} {s : Dy} (hH : HAt w H A G C s) (hn : 0 < C.n) (hu : s.U) (hS : SpansAt w) (m : Int) (x : Mu) (hx : x.U) (hq : -9223372036854775808 ≤ x.q1 ∧ x.q1 ≤ 9223372036854775807) (hq3 : x.q3 ≤ 9223372036854775807) (hl : -9223372036854775808 ≤ x.l ∧ x.l ≤ 9223372036854775807) :
    Calls Tryz.prog 80 #[.pointer (some ⟨H, 0, none⟩), .int .i64 m, x.v] w (HP w H A G C (stepR C s m x).1 (.tuple #[(stepR C s m x).2.1.v, .bool (stepR C s m x).2.2.1, .bool (stepR C s m x).2.2.2])) := by
  have hb := below_on (below_new w (.cells #[.int .i64 x.l, .int .i64 x.q1, .int .i64 x.q2, .int .i64 x.q3, .int .i64 x.q4, .int .u64 x.m1, .int .u64 x.m2, .int .u64 x.m3, .int .u64 x.m4, .int .u64 x.m5, .int .u64 x.p, .int .i64 x.bk, .int .i64 x.rt] 60)) (.cells #[.int .i64 0, .int .i64 0, .int .i64 0, .int .i64 0, .int .i64 0, .int .u64 0, .int .u64 0, .int .u64 0, .int .u64 0, .int .u64 0, .int .u64 0, .int .i64 0, .int .i64 0] 60)
  have HX : Hid (MuAt ((w.alloc (.cells #[.int .i64 x.l, .int .i64 x.q1, .int .i64 x.q2, .int .i64 x.q3, .int .i64 x.q4, .int .u64 x.m1, .int .u64 x.m2, .int .u64 x.m3, .int .u64 x.m4, .int .u64 x.m5, .int .u64 x.p, .int .i64 x.bk, .int .i64 x.rt] 60)).alloc (.cells #[.int .i64 0, .int .i64 0, .int .i64 0, .int .i64 0, .int .i64 0, .int .u64 0, .int .u64 0, .int .u64 0, .int .u64 0, .int .u64 0, .int .u64 0, .int .i64 0, .int .i64 0] 60)) w.heap.size x) := Lib.hid ((Mut13.new w x.l x.p x.bk x.q1 x.q2 x.q3 x.q4 x.m1 x.m2 x.m3 x.m4 x.m5 x.rt).below (below_new _ (.cells #[.int .i64 0, .int .i64 0, .int .i64 0, .int .i64 0, .int .i64 0, .int .u64 0, .int .u64 0, .int .u64 0, .int .u64 0, .int .u64 0, .int .u64 0, .int .i64 0, .int .i64 0] 60)))
  have HY : Hid (MuAt ((w.alloc (.cells #[.int .i64 x.l, .int .i64 x.q1, .int .i64 x.q2, .int .i64 x.q3, .int .i64 x.q4, .int .u64 x.m1, .int .u64 x.m2, .int .u64 x.m3, .int .u64 x.m4, .int .u64 x.m5, .int .u64 x.p, .int .i64 x.bk, .int .i64 x.rt] 60)).alloc (.cells #[.int .i64 0, .int .i64 0, .int .i64 0, .int .i64 0, .int .i64 0, .int .u64 0, .int .u64 0, .int .u64 0, .int .u64 0, .int .u64 0, .int .u64 0, .int .i64 0, .int .i64 0] 60)) (w.heap.size + 1) (⟨0, 0, 0, 0, 0, 0, 0, 0, 0, 0, 0, 0, 0⟩ : Mu)) := Lib.hid (by have := Mut13.new (w.alloc (.cells #[.int .i64 x.l, .int .i64 x.q1, .int .i64 x.q2, .int .i64 x.q3, .int .i64 x.q4, .int .u64 x.m1, .int .u64 x.m2, .int .u64 x.m3, .int .u64 x.m4, .int .u64 x.m5, .int .u64 x.p, .int .i64 x.bk, .int .i64 x.rt] 60)) 0 0 0 0 0 0 0 0 0 0 0 0 0; simpa using this)
  have HF := Lib.hid (hH.below hb)
  have hlt : H < w.heap.size := hH.lt
  have hltA : A < w.heap.size := hH.ar.lt
  have hltG : G < w.heap.size := hH.ar.row.lt
  have HQ : Hid (Sav (HG H G) w _) := Lib.hid (Sav.of (S := HG H G) hb)
  have HS := Lib.hid (hS.below hb)
  have HSw := Lib.hid hS; have HFw := Lib.hid hH
  generalize hR : stepR C s m x = R
  clear hH hS hb
  obtain ⟨a0, a1, a2, a3, a4, a5, a6, a7, a8, a9, a10, a11, a12, af⟩ := HX.out.cells
  go_enter Tryz.func80, Tryz.ntmps80
  go_wp2_with fail
  cases higate : isGate x.l
  case true =>
    obtain ⟨s', y, hgg⟩ : ∃ s' y, gateS C s m x = (s', y, true) := ⟨(gateS C s m x).1, (gateS C s m x).2.1, Prod.ext rfl (Prod.ext rfl (gateS_yes higate))⟩
    obtain rfl : (s', y, false, true) = R := by rw [← hR]; unfold stepR; rw [if_pos higate, hgg]
    have HC : Hid (∀ W, HAt W H A G C s → SpansAt W → Calls Tryz.prog 108 #[.pointer (some ⟨H, 0, none⟩), .int .i64 m, x.v] W (HP W H A G C s' (.tuple #[y.v, .bool true]))) := Lib.hid (fun W h1 h2 => by have := gate_c (w := W) h1 hu h2 m x hq; rw [hgg] at this; exact this)
    clear hR hgg hu hx hq hq3 hl HSw HFw
    refine (HC.out _ HF.out HS.out).mono ?_
    rintro e V1 ⟨rfl, hF, hs⟩
    have HY1 := Lib.hid (HY.out.savH hs (by omega) (by omega))
    have HQ1 := Lib.hid (HQ.out.trans hs)
    have HF1 := Lib.hid hF
    clear hF hs HF HX HY HQ HS a0 a1 a2 a3 a4 a5 a6 a7 a8 a9 a10 a11 a12 af
    skip
    obtain ⟨c0, c1, c2, c3, c4, c5, c6, c7, c8, c9, c10, c11, c12, cf⟩ := HY1.out.cells
    obtain ⟨b0, b1, b2, b3, b4, b5, b6, b7, b8, b9, b10, b11, b12, bf⟩ := (HY1.out.put y.l y.p y.bk y.q1 y.q2 y.q3 y.q4 y.m1 y.m2 y.m3 y.m4 y.m5 y.rt).cells
    obtain ⟨s0, s1, s2, s3, s4, s5, s6, s7, s8, s9, s10, s11, s12, _⟩ := ((HY1.out.put y.l y.p y.bk y.q1 y.q2 y.q3 y.q4 y.m1 y.m2 y.m3 y.m4 y.m5 y.rt).put y.l y.p y.bk y.q1 y.q2 y.q3 y.q4 y.m1 y.m2 y.m3 y.m4 y.m5 y.rt).cells
    go_wp2_with fail
    refine bodyPost_ret (v := .tuple #[y.v, .bool false, .bool true]) (by simp [results, Tryz.f80, go_sem, s0, s1, s2, s3, s4, s5, s6, s7, s8, s9, s10, s11, s12]) rfl ?_
    exact ⟨rfl, (HF1.out.put13 (by omega) (by omega) (by omega) _ _ _ _ _ _ _ _ _ _ _ _ _).put13 (by omega) (by omega) (by omega) _ _ _ _ _ _ _ _ _ _ _ _ _, (HQ1.out.put13 (C := w.heap.size + 1) (.inr (by omega)) _ _ _ _ _ _ _ _ _ _ _ _ _).put13 (C := w.heap.size + 1) (.inr (by omega)) _ _ _ _ _ _ _ _ _ _ _ _ _⟩
  case false =>
    have HC : Hid (∀ W, HAt W H A G C s → SpansAt W → Calls Tryz.prog 108 #[.pointer (some ⟨H, 0, none⟩), .int .i64 m, x.v] W (HP W H A G C s (.tuple #[x.v, .bool false]))) := Lib.hid (fun W h1 h2 => by have := gate_c (w := W) h1 hu h2 m x hq; rw [gateS_no higate] at this; exact this)
    refine (HC.out _ HF.out HS.out).mono ?_
    rintro e V1 ⟨rfl, hF, hs⟩
    have HX1 := Lib.hid (HX.out.savH hs (by omega) (by omega))
    have HY1 := Lib.hid (HY.out.savH hs (by omega) (by omega))
    have HQ1 := Lib.hid (HQ.out.trans hs)
    have HF1 := Lib.hid hF
    clear hF hs HF HX HY HQ HS a0 a1 a2 a3 a4 a5 a6 a7 a8 a9 a10 a11 a12 af
    obtain ⟨c0, c1, c2, c3, c4, c5, c6, c7, c8, c9, c10, c11, c12, cf⟩ := HY1.out.cells
    obtain ⟨a0, a1, a2, a3, a4, a5, a6, a7, a8, a9, a10, a11, a12, af⟩ := HX1.out.cells
    go_wp2_with fail
    have HX : Hid (MuAt (((((((((((((V1.setCell ⟨w.heap.size + 1, 0, none⟩ (.int .i64 x.l)).setCell ⟨w.heap.size + 1, 1, none⟩ (.int .i64 x.q1)).setCell ⟨w.heap.size + 1, 2, none⟩ (.int .i64 x.q2)).setCell ⟨w.heap.size + 1, 3, none⟩ (.int .i64 x.q3)).setCell ⟨w.heap.size + 1, 4, none⟩ (.int .i64 x.q4)).setCell ⟨w.heap.size + 1, 5, none⟩ (.int .u64 x.m1)).setCell ⟨w.heap.size + 1, 6, none⟩ (.int .u64 x.m2)).setCell ⟨w.heap.size + 1, 7, none⟩ (.int .u64 x.m3)).setCell ⟨w.heap.size + 1, 8, none⟩ (.int .u64 x.m4)).setCell ⟨w.heap.size + 1, 9, none⟩ (.int .u64 x.m5)).setCell ⟨w.heap.size + 1, 10, none⟩ (.int .u64 x.p)).setCell ⟨w.heap.size + 1, 11, none⟩ (.int .i64 x.bk)).setCell ⟨w.heap.size + 1, 12, none⟩ (.int .i64 x.rt)) w.heap.size x) := Lib.hid (HX1.out.other (heap_put13 _ _ _ _ _ _ _ _ _ _ _ _ _ _ _ (by omega)))
    have HY : Hid (MuAt (((((((((((((V1.setCell ⟨w.heap.size + 1, 0, none⟩ (.int .i64 x.l)).setCell ⟨w.heap.size + 1, 1, none⟩ (.int .i64 x.q1)).setCell ⟨w.heap.size + 1, 2, none⟩ (.int .i64 x.q2)).setCell ⟨w.heap.size + 1, 3, none⟩ (.int .i64 x.q3)).setCell ⟨w.heap.size + 1, 4, none⟩ (.int .i64 x.q4)).setCell ⟨w.heap.size + 1, 5, none⟩ (.int .u64 x.m1)).setCell ⟨w.heap.size + 1, 6, none⟩ (.int .u64 x.m2)).setCell ⟨w.heap.size + 1, 7, none⟩ (.int .u64 x.m3)).setCell ⟨w.heap.size + 1, 8, none⟩ (.int .u64 x.m4)).setCell ⟨w.heap.size + 1, 9, none⟩ (.int .u64 x.m5)).setCell ⟨w.heap.size + 1, 10, none⟩ (.int .u64 x.p)).setCell ⟨w.heap.size + 1, 11, none⟩ (.int .i64 x.bk)).setCell ⟨w.heap.size + 1, 12, none⟩ (.int .i64 x.rt)) (w.heap.size + 1) x) := Lib.hid (HY1.out.put x.l x.p x.bk x.q1 x.q2 x.q3 x.q4 x.m1 x.m2 x.m3 x.m4 x.m5 x.rt)
    have HF : Hid (HAt (((((((((((((V1.setCell ⟨w.heap.size + 1, 0, none⟩ (.int .i64 x.l)).setCell ⟨w.heap.size + 1, 1, none⟩ (.int .i64 x.q1)).setCell ⟨w.heap.size + 1, 2, none⟩ (.int .i64 x.q2)).setCell ⟨w.heap.size + 1, 3, none⟩ (.int .i64 x.q3)).setCell ⟨w.heap.size + 1, 4, none⟩ (.int .i64 x.q4)).setCell ⟨w.heap.size + 1, 5, none⟩ (.int .u64 x.m1)).setCell ⟨w.heap.size + 1, 6, none⟩ (.int .u64 x.m2)).setCell ⟨w.heap.size + 1, 7, none⟩ (.int .u64 x.m3)).setCell ⟨w.heap.size + 1, 8, none⟩ (.int .u64 x.m4)).setCell ⟨w.heap.size + 1, 9, none⟩ (.int .u64 x.m5)).setCell ⟨w.heap.size + 1, 10, none⟩ (.int .u64 x.p)).setCell ⟨w.heap.size + 1, 11, none⟩ (.int .i64 x.bk)).setCell ⟨w.heap.size + 1, 12, none⟩ (.int .i64 x.rt)) H A G C s) := Lib.hid (HF1.out.put13 (by omega) (by omega) (by omega) x.l x.p x.bk x.q1 x.q2 x.q3 x.q4 x.m1 x.m2 x.m3 x.m4 x.m5 x.rt)
    have HQ : Hid (Sav (HG H G) w (((((((((((((V1.setCell ⟨w.heap.size + 1, 0, none⟩ (.int .i64 x.l)).setCell ⟨w.heap.size + 1, 1, none⟩ (.int .i64 x.q1)).setCell ⟨w.heap.size + 1, 2, none⟩ (.int .i64 x.q2)).setCell ⟨w.heap.size + 1, 3, none⟩ (.int .i64 x.q3)).setCell ⟨w.heap.size + 1, 4, none⟩ (.int .i64 x.q4)).setCell ⟨w.heap.size + 1, 5, none⟩ (.int .u64 x.m1)).setCell ⟨w.heap.size + 1, 6, none⟩ (.int .u64 x.m2)).setCell ⟨w.heap.size + 1, 7, none⟩ (.int .u64 x.m3)).setCell ⟨w.heap.size + 1, 8, none⟩ (.int .u64 x.m4)).setCell ⟨w.heap.size + 1, 9, none⟩ (.int .u64 x.m5)).setCell ⟨w.heap.size + 1, 10, none⟩ (.int .u64 x.p)).setCell ⟨w.heap.size + 1, 11, none⟩ (.int .i64 x.bk)).setCell ⟨w.heap.size + 1, 12, none⟩ (.int .i64 x.rt))) := Lib.hid (HQ1.out.put13 (C := w.heap.size + 1) (.inr (by omega)) x.l x.p x.bk x.q1 x.q2 x.q3 x.q4 x.m1 x.m2 x.m3 x.m4 x.m5 x.rt)
    have HS := Lib.hid (lspans_sav hn HSw.out HFw.out HQ.out)
    clear HX1 HY1 HQ1 HF1 a0 a1 a2 a3 a4 a5 a6 a7 a8 a9 a10 a11 a12 af c0 c1 c2 c3 c4 c5 c6 c7 c8 c9 c10 c11 c12 cf
    generalize ((((((((((((V1.setCell ⟨w.heap.size + 1, 0, none⟩ (.int .i64 x.l)).setCell ⟨w.heap.size + 1, 1, none⟩ (.int .i64 x.q1)).setCell ⟨w.heap.size + 1, 2, none⟩ (.int .i64 x.q2)).setCell ⟨w.heap.size + 1, 3, none⟩ (.int .i64 x.q3)).setCell ⟨w.heap.size + 1, 4, none⟩ (.int .i64 x.q4)).setCell ⟨w.heap.size + 1, 5, none⟩ (.int .u64 x.m1)).setCell ⟨w.heap.size + 1, 6, none⟩ (.int .u64 x.m2)).setCell ⟨w.heap.size + 1, 7, none⟩ (.int .u64 x.m3)).setCell ⟨w.heap.size + 1, 8, none⟩ (.int .u64 x.m4)).setCell ⟨w.heap.size + 1, 9, none⟩ (.int .u64 x.m5)).setCell ⟨w.heap.size + 1, 10, none⟩ (.int .u64 x.p)).setCell ⟨w.heap.size + 1, 11, none⟩ (.int .i64 x.bk)).setCell ⟨w.heap.size + 1, 12, none⟩ (.int .i64 x.rt) = V2 at *
    clear V1
    skip
    obtain ⟨a0, a1, a2, a3, a4, a5, a6, a7, a8, a9, a10, a11, a12, af⟩ := HX.out.cells
    clear HC
    go_wp2_with fail
    cases hitick : isTick x.l
    case true =>
      obtain ⟨s', y, hgg⟩ : ∃ s' y, tickS C s x = (s', y, true) := ⟨(tickS C s x).1, (tickS C s x).2.1, Prod.ext rfl (Prod.ext rfl (tickS_yes hitick))⟩
      obtain rfl : (s', y, false, true) = R := by rw [← hR]; unfold stepR; rw [if_neg (by rw [higate]; decide)]; rw [if_pos hitick, hgg]
      have HC : Hid (∀ W, HAt W H A G C s → SpansAt W → Calls Tryz.prog 109 #[.pointer (some ⟨H, 0, none⟩), x.v] W (HP W H A G C s' (.tuple #[y.v, .bool true]))) := Lib.hid (fun W h1 h2 => by have := tick_c (w := W) h1 hu x; rw [hgg] at this; exact this)
      clear hR hgg hu hx hq hq3 hl HSw HFw
      refine (HC.out _ HF.out HS.out).mono ?_
      rintro e V1 ⟨rfl, hF, hs⟩
      have HY1 := Lib.hid (HY.out.savH hs (by omega) (by omega))
      have HQ1 := Lib.hid (HQ.out.trans hs)
      have HF1 := Lib.hid hF
      clear hF hs HF HX HY HQ HS a0 a1 a2 a3 a4 a5 a6 a7 a8 a9 a10 a11 a12 af
      skip
      obtain ⟨c0, c1, c2, c3, c4, c5, c6, c7, c8, c9, c10, c11, c12, cf⟩ := HY1.out.cells
      obtain ⟨b0, b1, b2, b3, b4, b5, b6, b7, b8, b9, b10, b11, b12, bf⟩ := (HY1.out.put y.l y.p y.bk y.q1 y.q2 y.q3 y.q4 y.m1 y.m2 y.m3 y.m4 y.m5 y.rt).cells
      obtain ⟨s0, s1, s2, s3, s4, s5, s6, s7, s8, s9, s10, s11, s12, _⟩ := ((HY1.out.put y.l y.p y.bk y.q1 y.q2 y.q3 y.q4 y.m1 y.m2 y.m3 y.m4 y.m5 y.rt).put y.l y.p y.bk y.q1 y.q2 y.q3 y.q4 y.m1 y.m2 y.m3 y.m4 y.m5 y.rt).cells
      go_wp2_with fail
      refine bodyPost_ret (v := .tuple #[y.v, .bool false, .bool true]) (by simp [results, Tryz.f80, go_sem, s0, s1, s2, s3, s4, s5, s6, s7, s8, s9, s10, s11, s12]) rfl ?_
      exact ⟨rfl, (HF1.out.put13 (by omega) (by omega) (by omega) _ _ _ _ _ _ _ _ _ _ _ _ _).put13 (by omega) (by omega) (by omega) _ _ _ _ _ _ _ _ _ _ _ _ _, (HQ1.out.put13 (C := w.heap.size + 1) (.inr (by omega)) _ _ _ _ _ _ _ _ _ _ _ _ _).put13 (C := w.heap.size + 1) (.inr (by omega)) _ _ _ _ _ _ _ _ _ _ _ _ _⟩
    case false =>
      have HC : Hid (∀ W, HAt W H A G C s → SpansAt W → Calls Tryz.prog 109 #[.pointer (some ⟨H, 0, none⟩), x.v] W (HP W H A G C s (.tuple #[x.v, .bool false]))) := Lib.hid (fun W h1 h2 => by have := tick_c (w := W) h1 hu x; rw [tickS_no hitick] at this; exact this)
      refine (HC.out _ HF.out HS.out).mono ?_
      rintro e V1 ⟨rfl, hF, hs⟩
      have HX1 := Lib.hid (HX.out.savH hs (by omega) (by omega))
      have HY1 := Lib.hid (HY.out.savH hs (by omega) (by omega))
      have HQ1 := Lib.hid (HQ.out.trans hs)
      have HF1 := Lib.hid hF
      clear hF hs HF HX HY HQ HS a0 a1 a2 a3 a4 a5 a6 a7 a8 a9 a10 a11 a12 af
      obtain ⟨c0, c1, c2, c3, c4, c5, c6, c7, c8, c9, c10, c11, c12, cf⟩ := HY1.out.cells
      obtain ⟨a0, a1, a2, a3, a4, a5, a6, a7, a8, a9, a10, a11, a12, af⟩ := HX1.out.cells
      go_wp2_with fail
      have HX : Hid (MuAt (((((((((((((V1.setCell ⟨w.heap.size + 1, 0, none⟩ (.int .i64 x.l)).setCell ⟨w.heap.size + 1, 1, none⟩ (.int .i64 x.q1)).setCell ⟨w.heap.size + 1, 2, none⟩ (.int .i64 x.q2)).setCell ⟨w.heap.size + 1, 3, none⟩ (.int .i64 x.q3)).setCell ⟨w.heap.size + 1, 4, none⟩ (.int .i64 x.q4)).setCell ⟨w.heap.size + 1, 5, none⟩ (.int .u64 x.m1)).setCell ⟨w.heap.size + 1, 6, none⟩ (.int .u64 x.m2)).setCell ⟨w.heap.size + 1, 7, none⟩ (.int .u64 x.m3)).setCell ⟨w.heap.size + 1, 8, none⟩ (.int .u64 x.m4)).setCell ⟨w.heap.size + 1, 9, none⟩ (.int .u64 x.m5)).setCell ⟨w.heap.size + 1, 10, none⟩ (.int .u64 x.p)).setCell ⟨w.heap.size + 1, 11, none⟩ (.int .i64 x.bk)).setCell ⟨w.heap.size + 1, 12, none⟩ (.int .i64 x.rt)) w.heap.size x) := Lib.hid (HX1.out.other (heap_put13 _ _ _ _ _ _ _ _ _ _ _ _ _ _ _ (by omega)))
      have HY : Hid (MuAt (((((((((((((V1.setCell ⟨w.heap.size + 1, 0, none⟩ (.int .i64 x.l)).setCell ⟨w.heap.size + 1, 1, none⟩ (.int .i64 x.q1)).setCell ⟨w.heap.size + 1, 2, none⟩ (.int .i64 x.q2)).setCell ⟨w.heap.size + 1, 3, none⟩ (.int .i64 x.q3)).setCell ⟨w.heap.size + 1, 4, none⟩ (.int .i64 x.q4)).setCell ⟨w.heap.size + 1, 5, none⟩ (.int .u64 x.m1)).setCell ⟨w.heap.size + 1, 6, none⟩ (.int .u64 x.m2)).setCell ⟨w.heap.size + 1, 7, none⟩ (.int .u64 x.m3)).setCell ⟨w.heap.size + 1, 8, none⟩ (.int .u64 x.m4)).setCell ⟨w.heap.size + 1, 9, none⟩ (.int .u64 x.m5)).setCell ⟨w.heap.size + 1, 10, none⟩ (.int .u64 x.p)).setCell ⟨w.heap.size + 1, 11, none⟩ (.int .i64 x.bk)).setCell ⟨w.heap.size + 1, 12, none⟩ (.int .i64 x.rt)) (w.heap.size + 1) x) := Lib.hid (HY1.out.put x.l x.p x.bk x.q1 x.q2 x.q3 x.q4 x.m1 x.m2 x.m3 x.m4 x.m5 x.rt)
      have HF : Hid (HAt (((((((((((((V1.setCell ⟨w.heap.size + 1, 0, none⟩ (.int .i64 x.l)).setCell ⟨w.heap.size + 1, 1, none⟩ (.int .i64 x.q1)).setCell ⟨w.heap.size + 1, 2, none⟩ (.int .i64 x.q2)).setCell ⟨w.heap.size + 1, 3, none⟩ (.int .i64 x.q3)).setCell ⟨w.heap.size + 1, 4, none⟩ (.int .i64 x.q4)).setCell ⟨w.heap.size + 1, 5, none⟩ (.int .u64 x.m1)).setCell ⟨w.heap.size + 1, 6, none⟩ (.int .u64 x.m2)).setCell ⟨w.heap.size + 1, 7, none⟩ (.int .u64 x.m3)).setCell ⟨w.heap.size + 1, 8, none⟩ (.int .u64 x.m4)).setCell ⟨w.heap.size + 1, 9, none⟩ (.int .u64 x.m5)).setCell ⟨w.heap.size + 1, 10, none⟩ (.int .u64 x.p)).setCell ⟨w.heap.size + 1, 11, none⟩ (.int .i64 x.bk)).setCell ⟨w.heap.size + 1, 12, none⟩ (.int .i64 x.rt)) H A G C s) := Lib.hid (HF1.out.put13 (by omega) (by omega) (by omega) x.l x.p x.bk x.q1 x.q2 x.q3 x.q4 x.m1 x.m2 x.m3 x.m4 x.m5 x.rt)
      have HQ : Hid (Sav (HG H G) w (((((((((((((V1.setCell ⟨w.heap.size + 1, 0, none⟩ (.int .i64 x.l)).setCell ⟨w.heap.size + 1, 1, none⟩ (.int .i64 x.q1)).setCell ⟨w.heap.size + 1, 2, none⟩ (.int .i64 x.q2)).setCell ⟨w.heap.size + 1, 3, none⟩ (.int .i64 x.q3)).setCell ⟨w.heap.size + 1, 4, none⟩ (.int .i64 x.q4)).setCell ⟨w.heap.size + 1, 5, none⟩ (.int .u64 x.m1)).setCell ⟨w.heap.size + 1, 6, none⟩ (.int .u64 x.m2)).setCell ⟨w.heap.size + 1, 7, none⟩ (.int .u64 x.m3)).setCell ⟨w.heap.size + 1, 8, none⟩ (.int .u64 x.m4)).setCell ⟨w.heap.size + 1, 9, none⟩ (.int .u64 x.m5)).setCell ⟨w.heap.size + 1, 10, none⟩ (.int .u64 x.p)).setCell ⟨w.heap.size + 1, 11, none⟩ (.int .i64 x.bk)).setCell ⟨w.heap.size + 1, 12, none⟩ (.int .i64 x.rt))) := Lib.hid (HQ1.out.put13 (C := w.heap.size + 1) (.inr (by omega)) x.l x.p x.bk x.q1 x.q2 x.q3 x.q4 x.m1 x.m2 x.m3 x.m4 x.m5 x.rt)
      have HS := Lib.hid (lspans_sav hn HSw.out HFw.out HQ.out)
      clear HX1 HY1 HQ1 HF1 a0 a1 a2 a3 a4 a5 a6 a7 a8 a9 a10 a11 a12 af c0 c1 c2 c3 c4 c5 c6 c7 c8 c9 c10 c11 c12 cf
      generalize ((((((((((((V1.setCell ⟨w.heap.size + 1, 0, none⟩ (.int .i64 x.l)).setCell ⟨w.heap.size + 1, 1, none⟩ (.int .i64 x.q1)).setCell ⟨w.heap.size + 1, 2, none⟩ (.int .i64 x.q2)).setCell ⟨w.heap.size + 1, 3, none⟩ (.int .i64 x.q3)).setCell ⟨w.heap.size + 1, 4, none⟩ (.int .i64 x.q4)).setCell ⟨w.heap.size + 1, 5, none⟩ (.int .u64 x.m1)).setCell ⟨w.heap.size + 1, 6, none⟩ (.int .u64 x.m2)).setCell ⟨w.heap.size + 1, 7, none⟩ (.int .u64 x.m3)).setCell ⟨w.heap.size + 1, 8, none⟩ (.int .u64 x.m4)).setCell ⟨w.heap.size + 1, 9, none⟩ (.int .u64 x.m5)).setCell ⟨w.heap.size + 1, 10, none⟩ (.int .u64 x.p)).setCell ⟨w.heap.size + 1, 11, none⟩ (.int .i64 x.bk)).setCell ⟨w.heap.size + 1, 12, none⟩ (.int .i64 x.rt) = V2 at *
      clear V1
      skip
      obtain ⟨a0, a1, a2, a3, a4, a5, a6, a7, a8, a9, a10, a11, a12, af⟩ := HX.out.cells
      clear HC
      go_wp2_with fail
      cases hibar : isBar x.l
      case true =>
        obtain ⟨s', y, hgg⟩ : ∃ s' y, barS C s x = (s', y, true) := ⟨(barS C s x).1, (barS C s x).2.1, Prod.ext rfl (Prod.ext rfl (barS_yes hibar))⟩
        obtain rfl : (s', y, false, true) = R := by rw [← hR]; unfold stepR; rw [if_neg (by rw [higate]; decide)]; rw [if_neg (by rw [hitick]; decide)]; rw [if_pos hibar, hgg]
        have HC : Hid (∀ W, HAt W H A G C s → SpansAt W → Calls Tryz.prog 110 #[.pointer (some ⟨H, 0, none⟩), x.v] W (HP W H A G C s' (.tuple #[y.v, .bool true]))) := Lib.hid (fun W h1 h2 => by have := bar_c (w := W) h1 hu h2 x hx.2.2.2.2.2; rw [hgg] at this; exact this)
        clear hR hgg hu hx hq hq3 hl HSw HFw
        refine (HC.out _ HF.out HS.out).mono ?_
        rintro e V1 ⟨rfl, hF, hs⟩
        have HY1 := Lib.hid (HY.out.savH hs (by omega) (by omega))
        have HQ1 := Lib.hid (HQ.out.trans hs)
        have HF1 := Lib.hid hF
        clear hF hs HF HX HY HQ HS a0 a1 a2 a3 a4 a5 a6 a7 a8 a9 a10 a11 a12 af
        skip
        obtain ⟨c0, c1, c2, c3, c4, c5, c6, c7, c8, c9, c10, c11, c12, cf⟩ := HY1.out.cells
        obtain ⟨b0, b1, b2, b3, b4, b5, b6, b7, b8, b9, b10, b11, b12, bf⟩ := (HY1.out.put y.l y.p y.bk y.q1 y.q2 y.q3 y.q4 y.m1 y.m2 y.m3 y.m4 y.m5 y.rt).cells
        obtain ⟨s0, s1, s2, s3, s4, s5, s6, s7, s8, s9, s10, s11, s12, _⟩ := ((HY1.out.put y.l y.p y.bk y.q1 y.q2 y.q3 y.q4 y.m1 y.m2 y.m3 y.m4 y.m5 y.rt).put y.l y.p y.bk y.q1 y.q2 y.q3 y.q4 y.m1 y.m2 y.m3 y.m4 y.m5 y.rt).cells
        go_wp2_with fail
        refine bodyPost_ret (v := .tuple #[y.v, .bool false, .bool true]) (by simp [results, Tryz.f80, go_sem, s0, s1, s2, s3, s4, s5, s6, s7, s8, s9, s10, s11, s12]) rfl ?_
        exact ⟨rfl, (HF1.out.put13 (by omega) (by omega) (by omega) _ _ _ _ _ _ _ _ _ _ _ _ _).put13 (by omega) (by omega) (by omega) _ _ _ _ _ _ _ _ _ _ _ _ _, (HQ1.out.put13 (C := w.heap.size + 1) (.inr (by omega)) _ _ _ _ _ _ _ _ _ _ _ _ _).put13 (C := w.heap.size + 1) (.inr (by omega)) _ _ _ _ _ _ _ _ _ _ _ _ _⟩
      case false =>
        have HC : Hid (∀ W, HAt W H A G C s → SpansAt W → Calls Tryz.prog 110 #[.pointer (some ⟨H, 0, none⟩), x.v] W (HP W H A G C s (.tuple #[x.v, .bool false]))) := Lib.hid (fun W h1 h2 => by have := bar_c (w := W) h1 hu h2 x hx.2.2.2.2.2; rw [barS_no hibar] at this; exact this)
        refine (HC.out _ HF.out HS.out).mono ?_
        rintro e V1 ⟨rfl, hF, hs⟩
        have HX1 := Lib.hid (HX.out.savH hs (by omega) (by omega))
        have HY1 := Lib.hid (HY.out.savH hs (by omega) (by omega))
        have HQ1 := Lib.hid (HQ.out.trans hs)
        have HF1 := Lib.hid hF
        clear hF hs HF HX HY HQ HS a0 a1 a2 a3 a4 a5 a6 a7 a8 a9 a10 a11 a12 af
        obtain ⟨c0, c1, c2, c3, c4, c5, c6, c7, c8, c9, c10, c11, c12, cf⟩ := HY1.out.cells
        obtain ⟨a0, a1, a2, a3, a4, a5, a6, a7, a8, a9, a10, a11, a12, af⟩ := HX1.out.cells
        go_wp2_with fail
        have HX : Hid (MuAt (((((((((((((V1.setCell ⟨w.heap.size + 1, 0, none⟩ (.int .i64 x.l)).setCell ⟨w.heap.size + 1, 1, none⟩ (.int .i64 x.q1)).setCell ⟨w.heap.size + 1, 2, none⟩ (.int .i64 x.q2)).setCell ⟨w.heap.size + 1, 3, none⟩ (.int .i64 x.q3)).setCell ⟨w.heap.size + 1, 4, none⟩ (.int .i64 x.q4)).setCell ⟨w.heap.size + 1, 5, none⟩ (.int .u64 x.m1)).setCell ⟨w.heap.size + 1, 6, none⟩ (.int .u64 x.m2)).setCell ⟨w.heap.size + 1, 7, none⟩ (.int .u64 x.m3)).setCell ⟨w.heap.size + 1, 8, none⟩ (.int .u64 x.m4)).setCell ⟨w.heap.size + 1, 9, none⟩ (.int .u64 x.m5)).setCell ⟨w.heap.size + 1, 10, none⟩ (.int .u64 x.p)).setCell ⟨w.heap.size + 1, 11, none⟩ (.int .i64 x.bk)).setCell ⟨w.heap.size + 1, 12, none⟩ (.int .i64 x.rt)) w.heap.size x) := Lib.hid (HX1.out.other (heap_put13 _ _ _ _ _ _ _ _ _ _ _ _ _ _ _ (by omega)))
        have HY : Hid (MuAt (((((((((((((V1.setCell ⟨w.heap.size + 1, 0, none⟩ (.int .i64 x.l)).setCell ⟨w.heap.size + 1, 1, none⟩ (.int .i64 x.q1)).setCell ⟨w.heap.size + 1, 2, none⟩ (.int .i64 x.q2)).setCell ⟨w.heap.size + 1, 3, none⟩ (.int .i64 x.q3)).setCell ⟨w.heap.size + 1, 4, none⟩ (.int .i64 x.q4)).setCell ⟨w.heap.size + 1, 5, none⟩ (.int .u64 x.m1)).setCell ⟨w.heap.size + 1, 6, none⟩ (.int .u64 x.m2)).setCell ⟨w.heap.size + 1, 7, none⟩ (.int .u64 x.m3)).setCell ⟨w.heap.size + 1, 8, none⟩ (.int .u64 x.m4)).setCell ⟨w.heap.size + 1, 9, none⟩ (.int .u64 x.m5)).setCell ⟨w.heap.size + 1, 10, none⟩ (.int .u64 x.p)).setCell ⟨w.heap.size + 1, 11, none⟩ (.int .i64 x.bk)).setCell ⟨w.heap.size + 1, 12, none⟩ (.int .i64 x.rt)) (w.heap.size + 1) x) := Lib.hid (HY1.out.put x.l x.p x.bk x.q1 x.q2 x.q3 x.q4 x.m1 x.m2 x.m3 x.m4 x.m5 x.rt)
        have HF : Hid (HAt (((((((((((((V1.setCell ⟨w.heap.size + 1, 0, none⟩ (.int .i64 x.l)).setCell ⟨w.heap.size + 1, 1, none⟩ (.int .i64 x.q1)).setCell ⟨w.heap.size + 1, 2, none⟩ (.int .i64 x.q2)).setCell ⟨w.heap.size + 1, 3, none⟩ (.int .i64 x.q3)).setCell ⟨w.heap.size + 1, 4, none⟩ (.int .i64 x.q4)).setCell ⟨w.heap.size + 1, 5, none⟩ (.int .u64 x.m1)).setCell ⟨w.heap.size + 1, 6, none⟩ (.int .u64 x.m2)).setCell ⟨w.heap.size + 1, 7, none⟩ (.int .u64 x.m3)).setCell ⟨w.heap.size + 1, 8, none⟩ (.int .u64 x.m4)).setCell ⟨w.heap.size + 1, 9, none⟩ (.int .u64 x.m5)).setCell ⟨w.heap.size + 1, 10, none⟩ (.int .u64 x.p)).setCell ⟨w.heap.size + 1, 11, none⟩ (.int .i64 x.bk)).setCell ⟨w.heap.size + 1, 12, none⟩ (.int .i64 x.rt)) H A G C s) := Lib.hid (HF1.out.put13 (by omega) (by omega) (by omega) x.l x.p x.bk x.q1 x.q2 x.q3 x.q4 x.m1 x.m2 x.m3 x.m4 x.m5 x.rt)
        have HQ : Hid (Sav (HG H G) w (((((((((((((V1.setCell ⟨w.heap.size + 1, 0, none⟩ (.int .i64 x.l)).setCell ⟨w.heap.size + 1, 1, none⟩ (.int .i64 x.q1)).setCell ⟨w.heap.size + 1, 2, none⟩ (.int .i64 x.q2)).setCell ⟨w.heap.size + 1, 3, none⟩ (.int .i64 x.q3)).setCell ⟨w.heap.size + 1, 4, none⟩ (.int .i64 x.q4)).setCell ⟨w.heap.size + 1, 5, none⟩ (.int .u64 x.m1)).setCell ⟨w.heap.size + 1, 6, none⟩ (.int .u64 x.m2)).setCell ⟨w.heap.size + 1, 7, none⟩ (.int .u64 x.m3)).setCell ⟨w.heap.size + 1, 8, none⟩ (.int .u64 x.m4)).setCell ⟨w.heap.size + 1, 9, none⟩ (.int .u64 x.m5)).setCell ⟨w.heap.size + 1, 10, none⟩ (.int .u64 x.p)).setCell ⟨w.heap.size + 1, 11, none⟩ (.int .i64 x.bk)).setCell ⟨w.heap.size + 1, 12, none⟩ (.int .i64 x.rt))) := Lib.hid (HQ1.out.put13 (C := w.heap.size + 1) (.inr (by omega)) x.l x.p x.bk x.q1 x.q2 x.q3 x.q4 x.m1 x.m2 x.m3 x.m4 x.m5 x.rt)
        have HS := Lib.hid (lspans_sav hn HSw.out HFw.out HQ.out)
        clear HX1 HY1 HQ1 HF1 a0 a1 a2 a3 a4 a5 a6 a7 a8 a9 a10 a11 a12 af c0 c1 c2 c3 c4 c5 c6 c7 c8 c9 c10 c11 c12 cf
        generalize ((((((((((((V1.setCell ⟨w.heap.size + 1, 0, none⟩ (.int .i64 x.l)).setCell ⟨w.heap.size + 1, 1, none⟩ (.int .i64 x.q1)).setCell ⟨w.heap.size + 1, 2, none⟩ (.int .i64 x.q2)).setCell ⟨w.heap.size + 1, 3, none⟩ (.int .i64 x.q3)).setCell ⟨w.heap.size + 1, 4, none⟩ (.int .i64 x.q4)).setCell ⟨w.heap.size + 1, 5, none⟩ (.int .u64 x.m1)).setCell ⟨w.heap.size + 1, 6, none⟩ (.int .u64 x.m2)).setCell ⟨w.heap.size + 1, 7, none⟩ (.int .u64 x.m3)).setCell ⟨w.heap.size + 1, 8, none⟩ (.int .u64 x.m4)).setCell ⟨w.heap.size + 1, 9, none⟩ (.int .u64 x.m5)).setCell ⟨w.heap.size + 1, 10, none⟩ (.int .u64 x.p)).setCell ⟨w.heap.size + 1, 11, none⟩ (.int .i64 x.bk)).setCell ⟨w.heap.size + 1, 12, none⟩ (.int .i64 x.rt) = V2 at *
        clear V1
        skip
        obtain ⟨a0, a1, a2, a3, a4, a5, a6, a7, a8, a9, a10, a11, a12, af⟩ := HX.out.cells
        clear HC
        go_wp2_with fail
        cases hipop : isPop x.l
        case true =>
          obtain ⟨s', y, lin, hgg⟩ : ∃ s' y lin, popS C s x = (s', y, lin, true) := ⟨(popS C s x).1, (popS C s x).2.1, (popS C s x).2.2.1, Prod.ext rfl (Prod.ext rfl (Prod.ext rfl (popS_yes hipop)))⟩
          obtain rfl : (s', y, lin, true) = R := by rw [← hR]; unfold stepR; rw [if_neg (by rw [higate]; decide)]; rw [if_neg (by rw [hitick]; decide)]; rw [if_neg (by rw [hibar]; decide)]; rw [if_pos hipop, hgg]
          have HC : Hid (∀ W, HAt W H A G C s → SpansAt W → Calls Tryz.prog 111 #[.pointer (some ⟨H, 0, none⟩), x.v] W (HP W H A G C s' (.tuple #[y.v, .bool lin, .bool true]))) := Lib.hid (fun W h1 h2 => by have := pop_c (w := W) h1 hu h2 x hx; rw [hgg] at this; exact this)
          clear hR hgg hu hx hq hq3 hl HSw HFw
          refine (HC.out _ HF.out HS.out).mono ?_
          rintro e V1 ⟨rfl, hF, hs⟩
          have HY1 := Lib.hid (HY.out.savH hs (by omega) (by omega))
          have HQ1 := Lib.hid (HQ.out.trans hs)
          have HF1 := Lib.hid hF
          clear hF hs HF HX HY HQ HS a0 a1 a2 a3 a4 a5 a6 a7 a8 a9 a10 a11 a12 af
          skip
          obtain ⟨c0, c1, c2, c3, c4, c5, c6, c7, c8, c9, c10, c11, c12, cf⟩ := HY1.out.cells
          obtain ⟨b0, b1, b2, b3, b4, b5, b6, b7, b8, b9, b10, b11, b12, bf⟩ := (HY1.out.put y.l y.p y.bk y.q1 y.q2 y.q3 y.q4 y.m1 y.m2 y.m3 y.m4 y.m5 y.rt).cells
          obtain ⟨s0, s1, s2, s3, s4, s5, s6, s7, s8, s9, s10, s11, s12, _⟩ := ((HY1.out.put y.l y.p y.bk y.q1 y.q2 y.q3 y.q4 y.m1 y.m2 y.m3 y.m4 y.m5 y.rt).put y.l y.p y.bk y.q1 y.q2 y.q3 y.q4 y.m1 y.m2 y.m3 y.m4 y.m5 y.rt).cells
          go_wp2_with fail
          refine bodyPost_ret (v := .tuple #[y.v, .bool lin, .bool true]) (by simp [results, Tryz.f80, go_sem, s0, s1, s2, s3, s4, s5, s6, s7, s8, s9, s10, s11, s12]) rfl ?_
          exact ⟨rfl, (HF1.out.put13 (by omega) (by omega) (by omega) _ _ _ _ _ _ _ _ _ _ _ _ _).put13 (by omega) (by omega) (by omega) _ _ _ _ _ _ _ _ _ _ _ _ _, (HQ1.out.put13 (C := w.heap.size + 1) (.inr (by omega)) _ _ _ _ _ _ _ _ _ _ _ _ _).put13 (C := w.heap.size + 1) (.inr (by omega)) _ _ _ _ _ _ _ _ _ _ _ _ _⟩
        case false =>
          have HC : Hid (∀ W, HAt W H A G C s → SpansAt W → Calls Tryz.prog 111 #[.pointer (some ⟨H, 0, none⟩), x.v] W (HP W H A G C s (.tuple #[x.v, .bool false, .bool false]))) := Lib.hid (fun W h1 h2 => by have := pop_c (w := W) h1 hu h2 x hx; rw [popS_no hipop] at this; exact this)
          refine (HC.out _ HF.out HS.out).mono ?_
          rintro e V1 ⟨rfl, hF, hs⟩
          have HX1 := Lib.hid (HX.out.savH hs (by omega) (by omega))
          have HY1 := Lib.hid (HY.out.savH hs (by omega) (by omega))
          have HQ1 := Lib.hid (HQ.out.trans hs)
          have HF1 := Lib.hid hF
          clear hF hs HF HX HY HQ HS a0 a1 a2 a3 a4 a5 a6 a7 a8 a9 a10 a11 a12 af
          obtain ⟨c0, c1, c2, c3, c4, c5, c6, c7, c8, c9, c10, c11, c12, cf⟩ := HY1.out.cells
          obtain ⟨a0, a1, a2, a3, a4, a5, a6, a7, a8, a9, a10, a11, a12, af⟩ := HX1.out.cells
          go_wp2_with fail
          have HX : Hid (MuAt (((((((((((((V1.setCell ⟨w.heap.size + 1, 0, none⟩ (.int .i64 x.l)).setCell ⟨w.heap.size + 1, 1, none⟩ (.int .i64 x.q1)).setCell ⟨w.heap.size + 1, 2, none⟩ (.int .i64 x.q2)).setCell ⟨w.heap.size + 1, 3, none⟩ (.int .i64 x.q3)).setCell ⟨w.heap.size + 1, 4, none⟩ (.int .i64 x.q4)).setCell ⟨w.heap.size + 1, 5, none⟩ (.int .u64 x.m1)).setCell ⟨w.heap.size + 1, 6, none⟩ (.int .u64 x.m2)).setCell ⟨w.heap.size + 1, 7, none⟩ (.int .u64 x.m3)).setCell ⟨w.heap.size + 1, 8, none⟩ (.int .u64 x.m4)).setCell ⟨w.heap.size + 1, 9, none⟩ (.int .u64 x.m5)).setCell ⟨w.heap.size + 1, 10, none⟩ (.int .u64 x.p)).setCell ⟨w.heap.size + 1, 11, none⟩ (.int .i64 x.bk)).setCell ⟨w.heap.size + 1, 12, none⟩ (.int .i64 x.rt)) w.heap.size x) := Lib.hid (HX1.out.other (heap_put13 _ _ _ _ _ _ _ _ _ _ _ _ _ _ _ (by omega)))
          have HY : Hid (MuAt (((((((((((((V1.setCell ⟨w.heap.size + 1, 0, none⟩ (.int .i64 x.l)).setCell ⟨w.heap.size + 1, 1, none⟩ (.int .i64 x.q1)).setCell ⟨w.heap.size + 1, 2, none⟩ (.int .i64 x.q2)).setCell ⟨w.heap.size + 1, 3, none⟩ (.int .i64 x.q3)).setCell ⟨w.heap.size + 1, 4, none⟩ (.int .i64 x.q4)).setCell ⟨w.heap.size + 1, 5, none⟩ (.int .u64 x.m1)).setCell ⟨w.heap.size + 1, 6, none⟩ (.int .u64 x.m2)).setCell ⟨w.heap.size + 1, 7, none⟩ (.int .u64 x.m3)).setCell ⟨w.heap.size + 1, 8, none⟩ (.int .u64 x.m4)).setCell ⟨w.heap.size + 1, 9, none⟩ (.int .u64 x.m5)).setCell ⟨w.heap.size + 1, 10, none⟩ (.int .u64 x.p)).setCell ⟨w.heap.size + 1, 11, none⟩ (.int .i64 x.bk)).setCell ⟨w.heap.size + 1, 12, none⟩ (.int .i64 x.rt)) (w.heap.size + 1) x) := Lib.hid (HY1.out.put x.l x.p x.bk x.q1 x.q2 x.q3 x.q4 x.m1 x.m2 x.m3 x.m4 x.m5 x.rt)
          have HF : Hid (HAt (((((((((((((V1.setCell ⟨w.heap.size + 1, 0, none⟩ (.int .i64 x.l)).setCell ⟨w.heap.size + 1, 1, none⟩ (.int .i64 x.q1)).setCell ⟨w.heap.size + 1, 2, none⟩ (.int .i64 x.q2)).setCell ⟨w.heap.size + 1, 3, none⟩ (.int .i64 x.q3)).setCell ⟨w.heap.size + 1, 4, none⟩ (.int .i64 x.q4)).setCell ⟨w.heap.size + 1, 5, none⟩ (.int .u64 x.m1)).setCell ⟨w.heap.size + 1, 6, none⟩ (.int .u64 x.m2)).setCell ⟨w.heap.size + 1, 7, none⟩ (.int .u64 x.m3)).setCell ⟨w.heap.size + 1, 8, none⟩ (.int .u64 x.m4)).setCell ⟨w.heap.size + 1, 9, none⟩ (.int .u64 x.m5)).setCell ⟨w.heap.size + 1, 10, none⟩ (.int .u64 x.p)).setCell ⟨w.heap.size + 1, 11, none⟩ (.int .i64 x.bk)).setCell ⟨w.heap.size + 1, 12, none⟩ (.int .i64 x.rt)) H A G C s) := Lib.hid (HF1.out.put13 (by omega) (by omega) (by omega) x.l x.p x.bk x.q1 x.q2 x.q3 x.q4 x.m1 x.m2 x.m3 x.m4 x.m5 x.rt)
          have HQ : Hid (Sav (HG H G) w (((((((((((((V1.setCell ⟨w.heap.size + 1, 0, none⟩ (.int .i64 x.l)).setCell ⟨w.heap.size + 1, 1, none⟩ (.int .i64 x.q1)).setCell ⟨w.heap.size + 1, 2, none⟩ (.int .i64 x.q2)).setCell ⟨w.heap.size + 1, 3, none⟩ (.int .i64 x.q3)).setCell ⟨w.heap.size + 1, 4, none⟩ (.int .i64 x.q4)).setCell ⟨w.heap.size + 1, 5, none⟩ (.int .u64 x.m1)).setCell ⟨w.heap.size + 1, 6, none⟩ (.int .u64 x.m2)).setCell ⟨w.heap.size + 1, 7, none⟩ (.int .u64 x.m3)).setCell ⟨w.heap.size + 1, 8, none⟩ (.int .u64 x.m4)).setCell ⟨w.heap.size + 1, 9, none⟩ (.int .u64 x.m5)).setCell ⟨w.heap.size + 1, 10, none⟩ (.int .u64 x.p)).setCell ⟨w.heap.size + 1, 11, none⟩ (.int .i64 x.bk)).setCell ⟨w.heap.size + 1, 12, none⟩ (.int .i64 x.rt))) := Lib.hid (HQ1.out.put13 (C := w.heap.size + 1) (.inr (by omega)) x.l x.p x.bk x.q1 x.q2 x.q3 x.q4 x.m1 x.m2 x.m3 x.m4 x.m5 x.rt)
          have HS := Lib.hid (lspans_sav hn HSw.out HFw.out HQ.out)
          clear HX1 HY1 HQ1 HF1 a0 a1 a2 a3 a4 a5 a6 a7 a8 a9 a10 a11 a12 af c0 c1 c2 c3 c4 c5 c6 c7 c8 c9 c10 c11 c12 cf
          generalize ((((((((((((V1.setCell ⟨w.heap.size + 1, 0, none⟩ (.int .i64 x.l)).setCell ⟨w.heap.size + 1, 1, none⟩ (.int .i64 x.q1)).setCell ⟨w.heap.size + 1, 2, none⟩ (.int .i64 x.q2)).setCell ⟨w.heap.size + 1, 3, none⟩ (.int .i64 x.q3)).setCell ⟨w.heap.size + 1, 4, none⟩ (.int .i64 x.q4)).setCell ⟨w.heap.size + 1, 5, none⟩ (.int .u64 x.m1)).setCell ⟨w.heap.size + 1, 6, none⟩ (.int .u64 x.m2)).setCell ⟨w.heap.size + 1, 7, none⟩ (.int .u64 x.m3)).setCell ⟨w.heap.size + 1, 8, none⟩ (.int .u64 x.m4)).setCell ⟨w.heap.size + 1, 9, none⟩ (.int .u64 x.m5)).setCell ⟨w.heap.size + 1, 10, none⟩ (.int .u64 x.p)).setCell ⟨w.heap.size + 1, 11, none⟩ (.int .i64 x.bk)).setCell ⟨w.heap.size + 1, 12, none⟩ (.int .i64 x.rt) = V2 at *
          clear V1
          skip
          obtain ⟨a0, a1, a2, a3, a4, a5, a6, a7, a8, a9, a10, a11, a12, af⟩ := HX.out.cells
          clear HC
          go_wp2_with fail
          cases hOK : ownK x.l with
          | none =>
            have HX2 : Hid (MuAt V2.drew w.heap.size x) := Lib.hid HX.out
            have HY2 : Hid (MuAt V2.drew (w.heap.size + 1) x) := Lib.hid HY.out
            have HF2 := Lib.hid HF.out.drew
            have HQ2 : Hid (Sav (HG H G) w V2.drew) := Lib.hid (HQ.out.trans (Sav.of (Below.refl _ _).drew))
            have HS2 : Hid (SpansAt V2.drew) := Lib.hid HS.out
            clear HX HY HF HQ HS
            refine wp_region_noPanic ?_
            refine wp_region_held_drew (S := (fun w' => w'.cell? ⟨w.heap.size, 0, none⟩ = some (.int .i64 x.l))) (by kernel_rfl) ?_ (fun hHeld => ?_)
            · exact a0
            refine wpAnyH_take (i := 1) (oi := _) (v := ?vn1) rfl (by kernel_rfl) (by kernel_rfl) (by kernel_rfl) (fun _ _ _ h => h) (Or.inl ⟨by rfl, ?hyn1⟩) hHeld ?_
            case hyn1 => (intro w hSw; (try dsimp only at hSw); go_simp; (try with_reducible rfl))
            try simp only [Act.put, List.setIfInBounds_toArray, List.set_cons_zero, List.set_cons_succ]
            refine wpAnyH_take (i := 2) (oi := _) (v := ?vn2) rfl (by kernel_rfl) (by kernel_rfl) (by kernel_rfl) (fun _ _ _ h => h) (Or.inl ⟨by rfl, ?hyn2⟩) hHeld ?_
            case hyn2 => (intro w hSw; (try dsimp only at hSw); go_simp; (try with_reducible rfl))
            try simp only [Act.put, List.setIfInBounds_toArray, List.set_cons_zero, List.set_cons_succ]
            refine wpAnyH_ready (rs := [0]) (by kernel_rfl) (by simp) ?_
            refine AllReadyH.cons (o := _) rfl (fun K hK => ?_) AllReadyH.nil
            go_simp
            refine (ownLines_c _).mono ?_
            rintro e V3 ⟨D, rfl, ho, ht, hb⟩
            obtain ⟨u, ps, hrun, hv⟩ := ho.look_ok keyedInt Tryz.underlying169 (zeroFn V3) fnElem_nil (Maps.keyOf_int_mk Tryz.underlying3 (WalkArith.wf_i64 hl))
            obtain ⟨t1, t2⟩ := ht x.l
            rw [t1, hOK] at hrun
            rw [t2, hOK] at hv
            have hrun : (Instr.lookup 169 (.map (some V2.heap.size)) (.int .i64 x.l) true).run Tryz.prog V3 = .ok (.tuple #[u, .bool false]) V3 := hrun
            have HX3 := Lib.hid (HX2.out.below hb)
            have HY3 := Lib.hid (HY2.out.below hb)
            have HF3 := Lib.hid (HF2.out.below hb)
            have HQ3 := Lib.hid (HQ2.out.trans (Sav.of hb))
            have HS3 := Lib.hid (HS2.out.below hb)
            clear ho ht hb hv t1 t2 HX2 HY2 HF2 HQ2 HS2 hHeld a0 a1 a2 a3 a4 a5 a6 a7 a8 a9 a10 a11 a12 af
            obtain ⟨a0, a1, a2, a3, a4, a5, a6, a7, a8, a9, a10, a11, a12, af⟩ := HX3.out.cells
            refine hK.out _ _ ?_ (fun hHeld => ?_)
            · exact a0
            clear hK K
            try simp only [Act.put, List.setIfInBounds_toArray, List.set_cons_zero, List.set_cons_succ]
            refine wpAnyH_ready (rs := [3]) (by kernel_rfl) (by simp) ?_
            refine AllReadyH.cons (o := _) rfl (fun K hK => ?_) AllReadyH.nil
            go_simp
            refine hK.out _ _ ?_ (fun hHeld => ?_)
            · exact a0
            clear hK K
            try simp only [Act.put, List.setIfInBounds_toArray, List.set_cons_zero, List.set_cons_succ]
            refine wpAnyH_take (i := 4) (oi := _) (v := ?vn4) rfl (by kernel_rfl) (by kernel_rfl) (by kernel_rfl) (fun _ _ _ h => h) (Or.inl ⟨by rfl, ?hyn4⟩) hHeld ?_
            case hyn4 => (intro w hSw; (try dsimp only at hSw); go_simp; (try with_reducible rfl))
            try simp only [Act.put, List.setIfInBounds_toArray, List.set_cons_zero, List.set_cons_succ]
            refine wpAnyH_take (i := 5) (oi := _) (v := ?vn5) rfl (by kernel_rfl) (by kernel_rfl) (by kernel_rfl) (fun _ _ _ h => h) (Or.inl ⟨by rfl, ?hyn5⟩) hHeld ?_
            case hyn5 => (intro w hSw; (try dsimp only at hSw); go_simp; (try with_reducible rfl))
            try simp only [Act.put, List.setIfInBounds_toArray, List.set_cons_zero, List.set_cons_succ]
            refine wpAnyH_take (i := 6) (oi := _) (v := ?vn6) rfl (by kernel_rfl) (by kernel_rfl) (by kernel_rfl) (fun _ _ _ h => h) (Or.inl ⟨by rfl, ?hyn6⟩) hHeld ?_
            case hyn6 => (intro w hSw; (try dsimp only at hSw); go_simp; (try with_reducible rfl))
            try simp only [Act.put, List.setIfInBounds_toArray, List.set_cons_zero, List.set_cons_succ]
            refine wpAnyH_take (i := 7) (oi := _) (v := ?vn7) rfl (by kernel_rfl) (by kernel_rfl) (by kernel_rfl) (fun _ _ _ h => h) (Or.inl ⟨by rfl, ?hyn7⟩) hHeld ?_
            case hyn7 => (intro w hSw; (try dsimp only at hSw); go_simp; (try with_reducible rfl))
            try simp only [Act.put, List.setIfInBounds_toArray, List.set_cons_zero, List.set_cons_succ]
            refine wpAnyH_take (i := 8) (oi := _) (v := ?vn8) rfl (by kernel_rfl) (by kernel_rfl) (by kernel_rfl) (fun _ _ _ h => h) (Or.inl ⟨by rfl, ?hyn8⟩) hHeld ?_
            case hyn8 => (intro w hSw; (try dsimp only at hSw); go_simp; (try with_reducible rfl))
            try simp only [Act.put, List.setIfInBounds_toArray, List.set_cons_zero, List.set_cons_succ]
            refine wpAnyH_done (by kernel_rfl) ?_ _
            refine NoPanic.normal ?_
            clear hHeld hrun
            obtain rfl : (s, x, false, false) = R := by rw [← hR]; unfold stepR; rw [if_neg (by rw [higate]; decide)]; rw [if_neg (by rw [hitick]; decide)]; rw [if_neg (by rw [hibar]; decide)]; rw [if_neg (by rw [hipop]; decide)]; rw [if_neg (by unfold isOwn; rw [hOK]; decide)]
            clear hR hOK hu hx hq hq3 hl HSw HFw HS3
            obtain ⟨d0, d1, d2, d3, d4, d5, d6, d7, d8, d9, d10, d11, d12, df⟩ := HY3.out.cells
            obtain ⟨s0, s1, s2, s3, s4, s5, s6, s7, s8, s9, s10, s11, s12, _⟩ := (HY3.out.put x.l x.p x.bk x.q1 x.q2 x.q3 x.q4 x.m1 x.m2 x.m3 x.m4 x.m5 x.rt).cells
            go_wp2_with fail
            refine bodyPost_ret (v := .tuple #[x.v, .bool false, .bool false]) (by simp [results, Tryz.f80, go_sem, s0, s1, s2, s3, s4, s5, s6, s7, s8, s9, s10, s11, s12]) rfl ?_
            exact ⟨rfl, HF3.out.put13 (by omega) (by omega) (by omega) _ _ _ _ _ _ _ _ _ _ _ _ _, HQ3.out.put13 (C := w.heap.size + 1) (.inr (by omega)) _ _ _ _ _ _ _ _ _ _ _ _ _⟩
          | some KF =>
            have HX2 : Hid (MuAt V2.drew w.heap.size x) := Lib.hid HX.out
            have HY2 : Hid (MuAt V2.drew (w.heap.size + 1) x) := Lib.hid HY.out
            have HF2 := Lib.hid HF.out.drew
            have HQ2 : Hid (Sav (HG H G) w V2.drew) := Lib.hid (HQ.out.trans (Sav.of (Below.refl _ _).drew))
            have HS2 : Hid (SpansAt V2.drew) := Lib.hid HS.out
            clear HX HY HF HQ HS
            refine wp_region_noPanic ?_
            refine wp_region_held_drew (S := (fun w' => w'.cell? ⟨w.heap.size, 0, none⟩ = some (.int .i64 x.l))) (by kernel_rfl) ?_ (fun hHeld => ?_)
            · exact a0
            refine wpAnyH_take (i := 1) (oi := _) (v := ?vs1) rfl (by kernel_rfl) (by kernel_rfl) (by kernel_rfl) (fun _ _ _ h => h) (Or.inl ⟨by rfl, ?hys1⟩) hHeld ?_
            case hys1 => (intro w hSw; (try dsimp only at hSw); go_simp; (try with_reducible rfl))
            try simp only [Act.put, List.setIfInBounds_toArray, List.set_cons_zero, List.set_cons_succ]
            refine wpAnyH_take (i := 2) (oi := _) (v := ?vs2) rfl (by kernel_rfl) (by kernel_rfl) (by kernel_rfl) (fun _ _ _ h => h) (Or.inl ⟨by rfl, ?hys2⟩) hHeld ?_
            case hys2 => (intro w hSw; (try dsimp only at hSw); go_simp; (try with_reducible rfl))
            try simp only [Act.put, List.setIfInBounds_toArray, List.set_cons_zero, List.set_cons_succ]
            refine wpAnyH_ready (rs := [0]) (by kernel_rfl) (by simp) ?_
            refine AllReadyH.cons (o := _) rfl (fun K hK => ?_) AllReadyH.nil
            go_simp
            refine (ownLines_c _).mono ?_
            rintro e V3 ⟨D, rfl, ho, ht, hb⟩
            obtain ⟨u, ps, hrun, hv⟩ := ho.look_ok keyedInt Tryz.underlying169 (zeroFn V3) fnElem_nil (Maps.keyOf_int_mk Tryz.underlying3 (WalkArith.wf_i64 hl))
            obtain ⟨t1, t2⟩ := ht x.l
            rw [t1, hOK] at hrun
            rw [t2, hOK] at hv
            obtain rfl := fnElem_inv hv
            have hrun : (Instr.lookup 169 (.map (some V2.heap.size)) (.int .i64 x.l) true).run Tryz.prog V3 = .ok (.tuple #[.func (.func KF) #[] #[], .bool true]) V3 := hrun
            have HX3 := Lib.hid (HX2.out.below hb)
            have HY3 := Lib.hid (HY2.out.below hb)
            have HF3 := Lib.hid (HF2.out.below hb)
            have HQ3 := Lib.hid (HQ2.out.trans (Sav.of hb))
            have HS3 := Lib.hid (HS2.out.below hb)
            clear ho ht hb hv t1 t2 HX2 HY2 HF2 HQ2 HS2 hHeld a0 a1 a2 a3 a4 a5 a6 a7 a8 a9 a10 a11 a12 af
            obtain ⟨a0, a1, a2, a3, a4, a5, a6, a7, a8, a9, a10, a11, a12, af⟩ := HX3.out.cells
            refine hK.out _ _ ?_ (fun hHeld => ?_)
            · exact a0
            clear hK K
            try simp only [Act.put, List.setIfInBounds_toArray, List.set_cons_zero, List.set_cons_succ]
            refine wpAnyH_ready (rs := [3]) (by kernel_rfl) (by simp) ?_
            refine AllReadyH.cons (o := _) rfl (fun K hK => ?_) AllReadyH.nil
            go_simp
            refine hK.out _ _ ?_ (fun hHeld => ?_)
            · exact a0
            clear hK K
            try simp only [Act.put, List.setIfInBounds_toArray, List.set_cons_zero, List.set_cons_succ]
            refine wpAnyH_take (i := 4) (oi := _) (v := ?vs4) rfl (by kernel_rfl) (by kernel_rfl) (by kernel_rfl) (fun _ _ _ h => h) (Or.inl ⟨by rfl, ?hys4⟩) hHeld ?_
            case hys4 => (intro w hSw; (try dsimp only at hSw); go_simp; (try with_reducible rfl))
            try simp only [Act.put, List.setIfInBounds_toArray, List.set_cons_zero, List.set_cons_succ]
            refine wpAnyH_take (i := 5) (oi := _) (v := ?vs5) rfl (by kernel_rfl) (by kernel_rfl) (by kernel_rfl) (fun _ _ _ h => h) (Or.inl ⟨by rfl, ?hys5⟩) hHeld ?_
            case hys5 => (intro w hSw; (try dsimp only at hSw); go_simp; (try with_reducible rfl))
            try simp only [Act.put, List.setIfInBounds_toArray, List.set_cons_zero, List.set_cons_succ]
            refine wpAnyH_take (i := 6) (oi := _) (v := ?vs6) rfl (by kernel_rfl) (by kernel_rfl) (by kernel_rfl) (fun _ _ _ h => h) (Or.inl ⟨by rfl, ?hys6⟩) hHeld ?_
            case hys6 => (intro w hSw; (try dsimp only at hSw); go_simp; (try with_reducible rfl))
            try simp only [Act.put, List.setIfInBounds_toArray, List.set_cons_zero, List.set_cons_succ]
            refine wpAnyH_take (i := 7) (oi := _) (v := ?vs7) rfl (by kernel_rfl) (by kernel_rfl) (by kernel_rfl) (fun _ _ _ h => h) (Or.inl ⟨by rfl, ?hys7⟩) hHeld ?_
            case hys7 => (intro w hSw; (try dsimp only at hSw); go_simp; (try with_reducible rfl))
            try simp only [Act.put, List.setIfInBounds_toArray, List.set_cons_zero, List.set_cons_succ]
            refine wpAnyH_take (i := 8) (oi := _) (v := ?vs8) rfl (by kernel_rfl) (by kernel_rfl) (by kernel_rfl) (fun _ _ _ h => h) (Or.inl ⟨by rfl, ?hys8⟩) hHeld ?_
            case hys8 => (intro w hSw; (try dsimp only at hSw); go_simp; (try with_reducible rfl))
            try simp only [Act.put, List.setIfInBounds_toArray, List.set_cons_zero, List.set_cons_succ]
            refine wpAnyH_done (by kernel_rfl) ?_ _
            refine NoPanic.normal ?_
            clear hHeld hrun
            obtain rfl : ((ownS C s m x).1, (ownS C s m x).2.1, (ownS C s m x).2.2.1, true) = R := by rw [← hR]; unfold stepR; rw [if_neg (by rw [higate]; decide)]; rw [if_neg (by rw [hitick]; decide)]; rw [if_neg (by rw [hibar]; decide)]; rw [if_neg (by rw [hipop]; decide)]; rw [if_pos (by unfold isOwn; rw [hOK]; rfl)]
            have HO : Hid (∀ W B, WkAt W B H A G C m s x → SpansAt W → Calls Tryz.prog KF #[.pointer (some ⟨B, 0, none⟩)] W (WPost W B H A G C m (.bool (ownS C s m x).2.2.1) (ownS C s m x).1 (ownS C s m x).2.1)) := Lib.hid (fun W B h1 h2 => own_any h1 hOK hu hx h2 hq3)
            have hE := own_enters hOK
            generalize (ownS C s m x).1 = s' at *
            generalize (ownS C s m x).2.1 = y at *
            generalize (ownS C s m x).2.2.1 = lin at *
            clear hR hOK hu hx hq hq3 hl HSw HFw
            go_wp2_with fail
            have HW := Lib.hid (WkAt.new HF3.out m x)
            have hbn := below_new V3 (.cells #[.pointer (some ⟨H, 0, none⟩), .int .i64 x.l, .int .i64 x.q1, .int .i64 x.q2, .int .i64 x.q3, .int .i64 x.q4, .int .u64 x.m1, .int .u64 x.m2, .int .u64 x.m3, .int .u64 x.m4, .int .u64 x.m5, .int .u64 x.p, .int .i64 x.bk, .int .i64 x.rt, .int .i64 m] 172)
            have HY4 := Lib.hid (HY3.out.below hbn)
            have HS4 := Lib.hid (HS3.out.below hbn)
            have HQ4 := Lib.hid (HQ3.out.trans (Sav.of (S := HG H G) hbn))
            have hsz := HQ3.out.size
            have hB : w.heap.size ≤ V3.heap.size ∧ w.heap.size + 1 < V3.heap.size := ⟨by omega, HY3.out.lt⟩
            clear hbn HX3 HY3 HF3 HQ3 HS3 a0 a1 a2 a3 a4 a5 a6 a7 a8 a9 a10 a11 a12 af
            generalize V3.alloc (.cells #[.pointer (some ⟨H, 0, none⟩), .int .i64 x.l, .int .i64 x.q1, .int .i64 x.q2, .int .i64 x.q3, .int .i64 x.q4, .int .u64 x.m1, .int .u64 x.m2, .int .u64 x.m3, .int .u64 x.m4, .int .u64 x.m5, .int .u64 x.p, .int .i64 x.bk, .int .i64 x.rt, .int .i64 m] 172) = V4 at *
            generalize V3.heap.size = B at *
            clear hsz
            clear hE
            refine (HO.out _ _ HW.out HS4.out).mono ?_
            rintro e V5 ⟨rfl, hW, hs⟩
            have HW5 := Lib.hid hW
            have HY5 := Lib.hid (HY4.out.other (hs.block _ HY4.out.lt (by rintro ((e | e) | e) <;> omega)))
            have HQ5 := Lib.hid (HQ4.out.thenW hB.1 hs)
            clear HO HW HY4 HS4 HQ4 hW hs
            obtain ⟨c0, c1, c2, c3, c4, c5, c6, c7, c8, c9, c10, c11, c12, c13, c14, cf⟩ := HW5.out.cells
            obtain ⟨d0, d1, d2, d3, d4, d5, d6, d7, d8, d9, d10, d11, d12, df⟩ := HY5.out.cells
            obtain ⟨s0, s1, s2, s3, s4, s5, s6, s7, s8, s9, s10, s11, s12, _⟩ := (HY5.out.put y.l y.p y.bk y.q1 y.q2 y.q3 y.q4 y.m1 y.m2 y.m3 y.m4 y.m5 y.rt).cells
            go_wp2_with fail
            refine bodyPost_ret (v := .tuple #[y.v, .bool lin, .bool true]) (by simp [results, Tryz.f80, go_sem, s0, s1, s2, s3, s4, s5, s6, s7, s8, s9, s10, s11, s12]) rfl ?_
            exact ⟨rfl, HW5.out.hand.put13 (by omega) (by omega) (by omega) _ _ _ _ _ _ _ _ _ _ _ _ _, HQ5.out.put13 (C := w.heap.size + 1) (.inr (by omega)) _ _ _ _ _ _ _ _ _ _ _ _ _⟩
end Go.Proofs.YtbpooljohjkbjaaGreatDoor
