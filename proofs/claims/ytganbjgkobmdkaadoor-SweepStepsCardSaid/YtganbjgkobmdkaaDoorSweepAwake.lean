/- awake of mudlarklaw18. -/
import Derived.Test.YtganbjgkobmdkaaDoorSweepDo
import Derived.Test.YtganbjgkobmdkaaDoorPlaceFirst
import Derived.Test.YtganbjgkobmdkaaDoorColWk
import Derived.Test.YtganbjgkobmdkaaDoorHandNew
namespace Go.Proofs.YtganbjgkobmdkaaDoor
open Go Go.RowKit
set_option maxRecDepth 100000
attribute [local go_sem ↓] Go.wp_at_zero Go.wp_at_succ

abbrev C18 : Cf := ⟨13, 2, 1, 1, 0⟩
theorem right18 : Right 2 1 1 0 := by unfold Right; omega
def dA18 : Dy := ⟨fstV 2 1 1 0, 0, 0, 0, 0, 0⟩
def want18 : List Int := [24, 20, 21, 22, 23, 1]
/-- How far the law's own look is behind k steps. -/
def sq18 : Nat → Dy × Co
  | 0 => ((dA18.act C18 2 8 0 0).act C18 2 9 2 0, ⟨20, 0, 0, 0, 0, 0, false, 0, 0⟩)
  | k + 1 => ((sweepS C18 (sq18 k).1 (sq18 k).2).1, (sweepS C18 (sq18 k).1 (sq18 k).2).2.1)
theorem dA18_U : dA18.U := fst_u64 right18
theorem dB18_U : (dA18.act C18 2 8 0 0).U := dA18_U.act C18 2 8 u64_zero u64_zero
theorem sq18_U : ∀ k, (sq18 k).1.U ∧ (sq18 k).2.U
  | 0 => ⟨dB18_U.act C18 2 9 (by unfold U64; omega) u64_zero, u64_zero, u64_zero⟩
  | k + 1 => sweepS_U (sq18_U k).1 _ (sq18_U k).2
theorem sq18_go : ∀ k, k < 6 → (sweepS C18 (sq18 k).1 (sq18 k).2).2.2.2 = true ∧ (sq18 (k + 1)).2.l = want18.getD k 0 ∧ ((sweepS C18 (sq18 k).1 (sq18 k).2).2.2.1 != 0) = (want18.getD k 0 == 1) ∧ -1000 ≤ (sq18 k).2.c ∧ (sq18 k).2.c ≤ 1000 ∧ -1000 ≤ (sq18 k).2.cy ∧ (sq18 k).2.cy ≤ 1000 := by decide +kernel
theorem sq18_end : (sq18 6).2.cy = 1 ∧ (sq18 6).2.tl = 1 ∧ (sq18 6).1.f 8 = 3 := by decide +kernel
theorem pc18 : partP 2 1 1 0 2 0 = 9 := by decide
theorem pd18 : partP 2 1 1 0 1 0 = 8 := by decide
/-- The row of lines that the law looks for. -/
def Row18 (w : World) (R : Nat) : Prop := R < w.heap.size ∧ ∀ k, k < 6 → w.cell? ⟨R, k, none⟩ = some (.int .i64 (want18.getD k 0))
theorem Row18.below {w w' : World} {R : Nat} (h : Row18 w R) (hb : Below w.heap.size w w') : Row18 w' R := ⟨Nat.lt_of_lt_of_le h.1 hb.size, fun k hk => (hb.cell (p := ⟨R, k, none⟩) h.1).trans (h.2 k hk)⟩
theorem Row18.set {w : World} {R : Nat} (h : Row18 w R) {p : Addr} (hp : R ≠ p.block) (v : Value) : Row18 (w.setCell p v) R :=
  ⟨by simpa [World.setCell] using h.1, fun k hk => (World.cell?_of_block (a := ⟨R, k, none⟩) (Below.heap_setCell _ _ _ _ hp)).trans (h.2 k hk)⟩
theorem Row18.sav {w w' : World} {R H G : Nat} (h : Row18 w R) (hs : Sav (HG H G) w w') (h1 : R ≠ H) (h2 : R ≠ G) : Row18 w' R :=
  ⟨Nat.lt_of_lt_of_le h.1 hs.size, fun k hk => (World.cell?_of_block (a := ⟨R, k, none⟩) (hs.block R h.1 (fun e => e.elim h1 h2))).trans (h.2 k hk)⟩
theorem Row18.new (w : World) : Row18 (w.alloc (.cells #[.int .i64 24, .int .i64 20, .int .i64 21, .int .i64 22, .int .i64 23, .int .i64 1] 3)) w.heap.size := by
  refine ⟨by simp, fun k hk => ?_⟩
  have h := newBlock w (.cells #[.int .i64 24, .int .i64 20, .int .i64 21, .int .i64 22, .int .i64 23, .int .i64 1] 3)
  rcases (by omega : k = 0 ∨ k = 1 ∨ k = 2 ∨ k = 3 ∨ k = 4 ∨ k = 5) with rfl | rfl | rfl | rfl | rfl | rfl
  all_goals (unfold World.cell?; rw [h]; rfl)
set_option maxHeartbeats 6400000 in
theorem awake18_c (w : World) (hS : SpansAt w) :
    Calls Tryd.prog 5 #[] w fun e w' => e = .returned (.bool true) ∧ Below w.heap.size w w' := by
  have HN := Lib.hid (New_yes 2 1 1 0 right18 w hS)
  have HS := Lib.hid hS
  have HCd : Hid (∀ W, SpansAt W → Calls Tryd.prog 17 #[.agg #[.int .i64 2, .int .i64 1, .int .i64 1, .int .i64 0], .int .i64 0] W fun e w' => e = .returned (.int .i64 8) ∧ Below W.heap.size W w') := Lib.hid (fun W h => by have := Cdr_c 2 1 1 0 0 W h; rw [pd18] at this; exact this)
  have HCo : Hid (∀ W, SpansAt W → Calls Tryd.prog 18 #[.agg #[.int .i64 2, .int .i64 1, .int .i64 1, .int .i64 0], .int .i64 0] W fun e w' => e = .returned (.int .i64 9) ∧ Below W.heap.size W w') := Lib.hid (fun W h => by have := Colour_c 2 1 1 0 0 W h; rw [pc18] at this; exact this)
  have HS1 : Hid (∀ W H A G, HAt W H A G C18 dA18 → Calls Tryd.prog 16 #[.pointer (some ⟨H, 0, none⟩), .int .i64 8, .int .u64 0] W (HP W H A G C18 (dA18.act C18 2 8 0 0) (.tuple #[]))) := Lib.hid (fun W H A G h => hStore_c (w := W) h dA18_U 8 0)
  have HS2 : Hid (∀ W H A G, HAt W H A G C18 (dA18.act C18 2 8 0 0) → Calls Tryd.prog 16 #[.pointer (some ⟨H, 0, none⟩), .int .i64 9, .int .u64 2] W (HP W H A G C18 (sq18 0).1 (.tuple #[]))) := Lib.hid (fun W H A G h => hStore_c (w := W) h dB18_U 9 2)
  have HPa : Hid (∀ k W H A G, k < 6 → SpansAt W → HAt W H A G C18 (sq18 k).1 → Calls Tryd.prog 9 #[.pointer (some ⟨H, 0, none⟩), (sq18 k).2.v] W (HP W H A G C18 (sq18 (k + 1)).1 (.tuple #[(sq18 (k + 1)).2.v, .int .i64 (sweepS C18 (sq18 k).1 (sq18 k).2).2.2.1, .bool true]))) := Lib.hid (fun k W H A G hk h1 h2 => by
    have h := sweep_c (w := W) h2 (sq18_U k).1 h1 right18 (by decide) (sq18 k).2 (sq18_U k).2 (by have := sq18_go k hk; omega)
    rw [(sq18_go k hk).1] at h
    exact h)
  have HL8 : Hid (∀ W A G, ArenaAt W A G 13 (sq18 6).1.f → Calls Tryd.prog 19 #[.pointer (some ⟨A, 0, none⟩), .int .i64 8] W fun e w' => e = .returned (.int .u64 3) ∧ W = w') := Lib.hid (fun W A G h => by have := Load_in h 8 (by omega); rw [sq18_end.2.2] at this; exact this)
  have HE6 := Lib.hid sq18_end
  have HGo := Lib.hid (fun k hk => (sq18_go k hk).2)
  clear hS
  go_enter Tryd.func5, Tryd.ntmps5
  go_wp2_with fail
  refine HN.out.mono ?_
  rintro e W1 ⟨n, hn, H, A, G, rfl, hF, hb, l1, l2, l3⟩
  obtain rfl : n = 13 := by omega
  have HB1 := Lib.hid hb; have HF1 : Hid (HAt W1 H A G C18 dA18) := Lib.hid hF
  have HSp1 := Lib.hid (HS.out.below hb)
  clear hF hb HN hn l2
  obtain ⟨y0, ⟨y1, y2, y3, y4⟩, _⟩ := HF1.out.cells
  dsimp only at y1 y2 y3 y4
  generalize hd1 : dA18.act C18 2 8 0 0 = d1 at *
  clear hd1
  go_wp2_with fail
  refine (HCd.out _ HSp1.out).mono ?_
  rintro e W2 ⟨rfl, hb⟩
  have HB2 := Lib.hid (belowOn HB1.out hb); have HF2 := Lib.hid (HF1.out.below hb)
  clear hb HB1 HF1 HSp1 y0 y1 y2 y3 y4
  go_wp2_with fail
  refine (HS1.out _ _ _ _ HF2.out).mono ?_
  rintro e W3 ⟨rfl, hF, hs⟩
  have HB3 := Lib.hid (hs.old HB2.out l1 l3)
  have HF3 := Lib.hid hF
  have HSp3 := Lib.hid (HS.out.below HB3.out)
  clear hF hs HB2 HF2 HS1
  obtain ⟨y0, ⟨y1, y2, y3, y4⟩, _⟩ := HF3.out.cells
  dsimp only at y1 y2 y3 y4
  go_wp2_with fail
  refine (HCo.out _ HSp3.out).mono ?_
  rintro e W4 ⟨rfl, hb⟩
  have HB4 := Lib.hid (belowOn HB3.out hb); have HF4 := Lib.hid (HF3.out.below hb)
  clear hb HB3 HF3 HSp3 HCo y0 y1 y2 y3 y4
  go_wp2_with fail
  refine (HS2.out _ _ _ _ HF4.out).mono ?_
  rintro e W5 ⟨rfl, hF, hs⟩
  have HT5 := Lib.hid ((CkW.first (hs.old HB4.out l1 l3) hF l1 l3 ⟨20, 0, 0, 0, 0, 0, false, 0, 0⟩).below (below_new _ (.cells #[.int .i64 24, .int .i64 20, .int .i64 21, .int .i64 22, .int .i64 23, .int .i64 1] 3)))
  have hr5 := Row18.new (W5.alloc (.cells #[.int .i64 20, .int .i64 0, .int .i64 0, .int .i64 0, .int .u64 0, .int .u64 0, .bool false, .int .i64 0, .int .i64 0] 28))
  rw [show (W5.alloc (.cells #[.int .i64 20, .int .i64 0, .int .i64 0, .int .i64 0, .int .u64 0, .int .u64 0, .bool false, .int .i64 0, .int .i64 0] 28)).heap.size = W5.heap.size + 1 by simp] at hr5
  have HR5 := Lib.hid hr5
  have hRB : W5.heap.size + 1 ≠ W5.heap.size := by omega
  have hRH : W5.heap.size + 1 ≠ H ∧ W5.heap.size + 1 ≠ A ∧ W5.heap.size + 1 ≠ G := by have h1 := hF.lt; have h2 := hF.ar.lt; have h3 := hF.ar.row.lt; omega
  clear hr5
  clear hF hs HB4 HF4 HS2
  go_wp2_with fail
  generalize (W5.alloc (.cells #[.int .i64 20, .int .i64 0, .int .i64 0, .int .i64 0, .int .u64 0, .int .u64 0, .bool false, .int .i64 0, .int .i64 0] 28)).alloc (.cells #[.int .i64 24, .int .i64 20, .int .i64 21, .int .i64 22, .int .i64 23, .int .i64 1] 3) = W6 at *
  generalize W5.heap.size = B at *
  go_loopw [39] (fun nv wr => ∃ k : Nat, nv = .int .i64 k ∧ k ≤ 6 ∧ Hid (CkW w wr H A G B C18 (sq18 k).1 (sq18 k).2) ∧ Hid (Row18 wr (B + 1))) (fun nv _ => 6 - (intOf nv).toNat)
  case atStart => exact ⟨0, rfl, by omega, HT5, HR5⟩
  case round =>
    clear HT5 HR5
    obtain ⟨k, rfl, hk, HT, HR⟩ := hrel
    by_cases hkT : k < 6
    · obtain ⟨hl', hw, _⟩ := HGo.out k hkT
      cases hbb : ((sweepS C18 (sq18 k).1 (sq18 k).2).2.2.1 != 0)
      · obtain ⟨b0, b1, b2, b3, b4, b5, b6, b7, b8, bf⟩ := HT.out.cells9
        have hk1 : IntKind.i64.wrap ((k : Int) + 1) = (k : Int) + 1 := IntWalk.i64_in _ (by omega)
        have hkI : (k : Int) < 6 := by omega
        have hk0 : (0 : Int) ≤ (k : Int) := by omega
        have cR := HR.out.2 k hkT
        have HP := Lib.hid (HPa.out k wr H A G hkT (HS.out.below HT.out.old) HT.out.hand)
        generalize (sweepS C18 (sq18 k).1 (sq18 k).2).2.2.1 = what at *
        generalize hx : (sq18 k).2 = x at *
        generalize hs : (sq18 k).1 = s at *
        clear hx hs
        generalize hx : (sq18 (k + 1)).2 = x' at *
        generalize hs : (sq18 (k + 1)).1 = s' at *
        generalize want18.getD k 0 = q at *
        obtain ⟨l, j, xc, m, xa, p, fd, tl, cy⟩ := x
        obtain ⟨l', j', xc', m', xa', p', fd', tl', cy'⟩ := x'
        dsimp only at HP hl' b0 b1 b2 b3 b4 b5 b6 b7 b8
        subst hl'
        have e2 : (l' == 1) = false := by rw [← hw, hbb]
        have e1 : (what != 0) = false := hbb
        clear hw hbb
        have e3 : (l' != l') = false := by simp
        go_wp2_with fail
        refine HP.out.mono ?_
        rintro e V hp
        obtain ⟨rfl, hT⟩ := HT.out.step hp
        have HR2 := Lib.hid (HR.out.sav hp.2.2 hRH.1 hRH.2.2)
        have HT2 := Lib.hid hT
        have hBl : B < V.heap.size := hT.col.lt
        have hBn : B ≠ V.heap.size := by omega
        clear hp hT HT HR HP cR b0 b1 b2 b3 b4 b5 b6 b7 b8 bf
        obtain ⟨b0, b1, b2, b3, b4, b5, b6, b7, b8, bf⟩ := HT2.out.cells9
        go_wp2_with fail
        have HT3 := Lib.hid ((HT2.out.put ⟨l', j', xc', m', xa', p', fd', tl', cy'⟩).below (below_new _ (.cells #[.int .i64 l', .int .i64 j', .int .i64 xc', .int .i64 m', .int .u64 xa', .int .u64 p', .bool fd', .int .i64 tl', .int .i64 cy'] 28)))
        have HR4 := Lib.hid ((show Row18 (((((((((V.setCell ⟨B, 0, none⟩ (.int .i64 l')).setCell ⟨B, 1, none⟩ (.int .i64 j')).setCell ⟨B, 2, none⟩ (.int .i64 xc')).setCell ⟨B, 3, none⟩ (.int .i64 m')).setCell ⟨B, 4, none⟩ (.int .u64 xa')).setCell ⟨B, 5, none⟩ (.int .u64 p')).setCell ⟨B, 6, none⟩ (.bool fd')).setCell ⟨B, 7, none⟩ (.int .i64 tl')).setCell ⟨B, 8, none⟩ (.int .i64 cy')) (B + 1) from ((((((((HR2.out.set (p := ⟨B, 0, none⟩) hRB _).set (p := ⟨B, 1, none⟩) hRB _).set (p := ⟨B, 2, none⟩) hRB _).set (p := ⟨B, 3, none⟩) hRB _).set (p := ⟨B, 4, none⟩) hRB _).set (p := ⟨B, 5, none⟩) hRB _).set (p := ⟨B, 6, none⟩) hRB _).set (p := ⟨B, 7, none⟩) hRB _).set (p := ⟨B, 8, none⟩) hRB _).below (below_new _ (.cells #[.int .i64 l', .int .i64 j', .int .i64 xc', .int .i64 m', .int .u64 xa', .int .u64 p', .bool fd', .int .i64 tl', .int .i64 cy'] 28)))
        go_roundw
        case rel => exact ⟨k + 1, by go_num, by omega, by rw [hx, hs]; exact HT3, HR4⟩
        case measure => simp [intOf]; omega
      · obtain ⟨b0, b1, b2, b3, b4, b5, b6, b7, b8, bf⟩ := HT.out.cells9
        have hk1 : IntKind.i64.wrap ((k : Int) + 1) = (k : Int) + 1 := IntWalk.i64_in _ (by omega)
        have hkI : (k : Int) < 6 := by omega
        have hk0 : (0 : Int) ≤ (k : Int) := by omega
        have cR := HR.out.2 k hkT
        have HP := Lib.hid (HPa.out k wr H A G hkT (HS.out.below HT.out.old) HT.out.hand)
        generalize (sweepS C18 (sq18 k).1 (sq18 k).2).2.2.1 = what at *
        generalize hx : (sq18 k).2 = x at *
        generalize hs : (sq18 k).1 = s at *
        clear hx hs
        generalize hx : (sq18 (k + 1)).2 = x' at *
        generalize hs : (sq18 (k + 1)).1 = s' at *
        generalize want18.getD k 0 = q at *
        obtain ⟨l, j, xc, m, xa, p, fd, tl, cy⟩ := x
        obtain ⟨l', j', xc', m', xa', p', fd', tl', cy'⟩ := x'
        dsimp only at HP hl' b0 b1 b2 b3 b4 b5 b6 b7 b8
        subst hl'
        have e2 : (l' == 1) = true := by rw [← hw, hbb]
        have e1 : (what != 0) = true := hbb
        clear hw hbb
        have e3 : (l' != l') = false := by simp
        go_wp2_with fail
        refine HP.out.mono ?_
        rintro e V hp
        obtain ⟨rfl, hT⟩ := HT.out.step hp
        have HR2 := Lib.hid (HR.out.sav hp.2.2 hRH.1 hRH.2.2)
        have HT2 := Lib.hid hT
        have hBl : B < V.heap.size := hT.col.lt
        have hBn : B ≠ V.heap.size := by omega
        clear hp hT HT HR HP cR b0 b1 b2 b3 b4 b5 b6 b7 b8 bf
        obtain ⟨b0, b1, b2, b3, b4, b5, b6, b7, b8, bf⟩ := HT2.out.cells9
        go_wp2_with fail
        have HT3 := Lib.hid ((HT2.out.put ⟨l', j', xc', m', xa', p', fd', tl', cy'⟩).below (below_new _ (.cells #[.int .i64 l', .int .i64 j', .int .i64 xc', .int .i64 m', .int .u64 xa', .int .u64 p', .bool fd', .int .i64 tl', .int .i64 cy'] 28)))
        have HR4 := Lib.hid ((show Row18 (((((((((V.setCell ⟨B, 0, none⟩ (.int .i64 l')).setCell ⟨B, 1, none⟩ (.int .i64 j')).setCell ⟨B, 2, none⟩ (.int .i64 xc')).setCell ⟨B, 3, none⟩ (.int .i64 m')).setCell ⟨B, 4, none⟩ (.int .u64 xa')).setCell ⟨B, 5, none⟩ (.int .u64 p')).setCell ⟨B, 6, none⟩ (.bool fd')).setCell ⟨B, 7, none⟩ (.int .i64 tl')).setCell ⟨B, 8, none⟩ (.int .i64 cy')) (B + 1) from ((((((((HR2.out.set (p := ⟨B, 0, none⟩) hRB _).set (p := ⟨B, 1, none⟩) hRB _).set (p := ⟨B, 2, none⟩) hRB _).set (p := ⟨B, 3, none⟩) hRB _).set (p := ⟨B, 4, none⟩) hRB _).set (p := ⟨B, 5, none⟩) hRB _).set (p := ⟨B, 6, none⟩) hRB _).set (p := ⟨B, 7, none⟩) hRB _).set (p := ⟨B, 8, none⟩) hRB _).below (below_new _ (.cells #[.int .i64 l', .int .i64 j', .int .i64 xc', .int .i64 m', .int .u64 xa', .int .u64 p', .bool fd', .int .i64 tl', .int .i64 cy'] 28)))
        go_roundw
        case rel => exact ⟨k + 1, by go_num, by omega, by rw [hx, hs]; exact HT3, HR4⟩
        case measure => simp [intOf]; omega
    · obtain rfl : k = 6 := by omega
      obtain ⟨hcy, htl, _⟩ := HE6.out
      obtain ⟨b0, b1, b2, b3, b4, b5, b6, b7, b8, bf⟩ := HT.out.cells9
      generalize (sq18 6).2 = x at *
      generalize (sq18 6).1 = s at *
      obtain ⟨l, j, xc, m, xa, p, fd, tl, cy⟩ := x
      dsimp only at hcy htl b0 b1 b2 b3 b4 b5 b6 b7 b8
      subst hcy htl
      go_wp2_with fail
      have HT6 := Lib.hid HT.out.drew
      have HSx := Lib.hid (HS.out.below HT6.out.old)
      obtain ⟨y0, ⟨y1, y2, y3, y4⟩, _⟩ := HT6.out.hand.cells
      dsimp only at y1 y2 y3 y4
      clear b0 b1 b2 b3 b4 b5 b6 bf
      have z7 : wr.drew.cell? ⟨B, 7, none⟩ = some (.int .i64 1) := b7
      have z8 : wr.drew.cell? ⟨B, 8, none⟩ = some (.int .i64 1) := b8
      clear b7 b8
      refine wp_region_held_drew (S := (fun w' => w'.cell? ⟨B, 7, none⟩ = some (.int .i64 1) ∧ w'.cell? ⟨B, 8, none⟩ = some (.int .i64 1) ∧ w'.cell? ⟨H, 0, none⟩ = some (.pointer (some ⟨A, 0, none⟩)) ∧ w'.cell? ⟨H, 1, none⟩ = some (.int .i64 2) ∧ w'.cell? ⟨H, 2, none⟩ = some (.int .i64 1) ∧ w'.cell? ⟨H, 3, none⟩ = some (.int .i64 1) ∧ w'.cell? ⟨H, 4, none⟩ = some (.int .i64 0))) (by kernel_rfl) ?_ (fun hHeld => ?_)
      · exact ⟨z7, z8, y0, y1, y2, y3, y4⟩
      refine wpAnyH_take (i := 0) (oi := { dst := some 67, op := Op.fieldAddr 28 (Operand.tmp 3) 8, type := 0, pos := "law.go:34", after := #[], guard := none }) (v := ?vq0) rfl (by kernel_rfl) (by kernel_rfl) (by kernel_rfl) (fun _ _ _ h => h) (Or.inl ⟨by rfl, ?hyq0⟩) hHeld ?_
      case hyq0 => (intro w hSw; (try dsimp only at hSw); go_simp; (try with_reducible rfl))
      try simp only [Act.put, List.setIfInBounds_toArray, List.set_cons_zero, List.set_cons_succ]
      refine wpAnyH_take (i := 1) (oi := { dst := some 68, op := Op.load 3 (Operand.tmp 67), type := 3, pos := "law.go:34", after := #[{ on := 0, ground := Ground.data }], guard := none }) (v := ?vq1) rfl (by kernel_rfl) (by kernel_rfl) (by kernel_rfl) (fun _ _ _ h => h) (Or.inl ⟨by rfl, ?hyq1⟩) hHeld ?_
      case hyq1 => (intro w hSw; (try dsimp only at hSw); go_simp; (try with_reducible rfl))
      try simp only [Act.put, List.setIfInBounds_toArray, List.set_cons_zero, List.set_cons_succ]
      refine wpAnyH_take (i := 2) (oi := { dst := some 69, op := Op.binOp BinOp.eql 3 (Operand.tmp 68) (Operand.const (Value.int IntKind.i64 1)) 3, type := 4, pos := "law.go:34", after := #[{ on := 1, ground := Ground.data }], guard := none }) (v := ?vq2) rfl (by kernel_rfl) (by kernel_rfl) (by kernel_rfl) (fun _ _ _ h => h) (Or.inl ⟨by rfl, ?hyq2⟩) hHeld ?_
      case hyq2 => (intro w hSw; (try dsimp only at hSw); go_simp; (try with_reducible rfl))
      try simp only [Act.put, List.setIfInBounds_toArray, List.set_cons_zero, List.set_cons_succ]
      refine wpAnyH_take (i := 3) (oi := { dst := some 70, op := Op.move (Operand.tmp 69), type := 4, pos := "law.go:34", after := #[{ on := 2, ground := Ground.data }], guard := none }) (v := ?vq3) rfl (by kernel_rfl) (by kernel_rfl) (by kernel_rfl) (fun _ _ _ h => h) (Or.inl ⟨by rfl, ?hyq3⟩) hHeld ?_
      case hyq3 => (intro w hSw; (try dsimp only at hSw); go_simp; (try with_reducible rfl))
      try simp only [Act.put, List.setIfInBounds_toArray, List.set_cons_zero, List.set_cons_succ]
      refine wpAnyH_take (i := 4) (oi := { dst := some 71, op := Op.fieldAddr 28 (Operand.tmp 3) 7, type := 0, pos := "law.go:34", after := #[{ on := 3, ground := Ground.guard }], guard := some (3, true) }) (v := ?vq4) rfl (by kernel_rfl) (by kernel_rfl) (by kernel_rfl) (fun _ _ _ h => h) (Or.inl ⟨by rfl, ?hyq4⟩) hHeld ?_
      case hyq4 => (intro w hSw; (try dsimp only at hSw); go_simp; (try with_reducible rfl))
      try simp only [Act.put, List.setIfInBounds_toArray, List.set_cons_zero, List.set_cons_succ]
      refine wpAnyH_take (i := 5) (oi := { dst := some 72, op := Op.load 3 (Operand.tmp 71), type := 3, pos := "law.go:34", after := #[{ on := 4, ground := Ground.data }, { on := 3, ground := Ground.guard }], guard := some (3, true) }) (v := ?vq5) rfl (by kernel_rfl) (by kernel_rfl) (by kernel_rfl) (fun _ _ _ h => h) (Or.inl ⟨by rfl, ?hyq5⟩) hHeld ?_
      case hyq5 => (intro w hSw; (try dsimp only at hSw); go_simp; (try with_reducible rfl))
      try simp only [Act.put, List.setIfInBounds_toArray, List.set_cons_zero, List.set_cons_succ]
      refine wpAnyH_take (i := 6) (oi := { dst := some 73, op := Op.binOp BinOp.eql 3 (Operand.tmp 72) (Operand.const (Value.int IntKind.i64 1)) 3, type := 4, pos := "law.go:34", after := #[{ on := 5, ground := Ground.data }, { on := 3, ground := Ground.guard }], guard := some (3, true) }) (v := ?vq6) rfl (by kernel_rfl) (by kernel_rfl) (by kernel_rfl) (fun _ _ _ h => h) (Or.inl ⟨by rfl, ?hyq6⟩) hHeld ?_
      case hyq6 => (intro w hSw; (try dsimp only at hSw); go_simp; (try with_reducible rfl))
      try simp only [Act.put, List.setIfInBounds_toArray, List.set_cons_zero, List.set_cons_succ]
      refine wpAnyH_take (i := 7) (oi := { dst := some 74, op := Op.pick (Operand.tmp 70) (Operand.tmp 73) (Operand.const (Value.bool false)), type := 4, pos := "law.go:34", after := #[{ on := 3, ground := Ground.data }, { on := 6, ground := Ground.data }], guard := none }) (v := ?vq7) rfl (by kernel_rfl) (by kernel_rfl) (by kernel_rfl) (fun _ _ _ h => h) (Or.inl ⟨by rfl, ?hyq7⟩) hHeld ?_
      case hyq7 => (intro w hSw; (try dsimp only at hSw); go_simp; (try with_reducible rfl))
      try simp only [Act.put, List.setIfInBounds_toArray, List.set_cons_zero, List.set_cons_succ]
      refine wpAnyH_take (i := 8) (oi := { dst := some 75, op := Op.move (Operand.tmp 74), type := 4, pos := "law.go:34", after := #[{ on := 7, ground := Ground.data }, { on := 3, ground := Ground.chain }], guard := none }) (v := ?vq8) rfl (by kernel_rfl) (by kernel_rfl) (by kernel_rfl) (fun _ _ _ h => h) (Or.inl ⟨by rfl, ?hyq8⟩) hHeld ?_
      case hyq8 => (intro w hSw; (try dsimp only at hSw); go_simp; (try with_reducible rfl))
      try simp only [Act.put, List.setIfInBounds_toArray, List.set_cons_zero, List.set_cons_succ]
      refine wpAnyH_take (i := 9) (oi := { dst := some 76, op := Op.move (Operand.tmp 1), type := 31, pos := "law.go:34", after := #[{ on := 8, ground := Ground.guard }], guard := some (8, true) }) (v := ?vq9) rfl (by kernel_rfl) (by kernel_rfl) (by kernel_rfl) (fun _ _ _ h => h) (Or.inl ⟨by rfl, ?hyq9⟩) hHeld ?_
      case hyq9 => (intro w hSw; (try dsimp only at hSw); go_simp; (try with_reducible rfl))
      try simp only [Act.put, List.setIfInBounds_toArray, List.set_cons_zero, List.set_cons_succ]
      refine wpAnyH_take (i := 10) (oi := { dst := some 77, op := Op.nilCheck (Operand.tmp 76), type := 0, pos := "law.go:34", after := #[{ on := 9, ground := Ground.data }, { on := 8, ground := Ground.guard }], guard := some (8, true) }) (v := ?vq10) rfl (by kernel_rfl) (by kernel_rfl) (by kernel_rfl) (fun _ _ _ h => h) (Or.inl ⟨by rfl, ?hyq10⟩) hHeld ?_
      case hyq10 => (intro w hSw; (try dsimp only at hSw); go_simp; (try with_reducible rfl))
      try simp only [Act.put, List.setIfInBounds_toArray, List.set_cons_zero, List.set_cons_succ]
      refine wpAnyH_take (i := 11) (oi := { dst := some 78, op := Op.fieldAddr 51 (Operand.tmp 77) 0, type := 0, pos := "law.go:34", after := #[{ on := 10, ground := Ground.data }, { on := 8, ground := Ground.guard }], guard := some (8, true) }) (v := ?vq11) rfl (by kernel_rfl) (by kernel_rfl) (by kernel_rfl) (fun _ _ _ h => h) (Or.inl ⟨by rfl, ?hyq11⟩) hHeld ?_
      case hyq11 => (intro w hSw; (try dsimp only at hSw); go_simp; (try with_reducible rfl))
      try simp only [Act.put, List.setIfInBounds_toArray, List.set_cons_zero, List.set_cons_succ]
      refine wpAnyH_take (i := 12) (oi := { dst := some 79, op := Op.load 45 (Operand.tmp 78), type := 45, pos := "law.go:34", after := #[{ on := 11, ground := Ground.data }, { on := 8, ground := Ground.guard }], guard := some (8, true) }) (v := ?vq12) rfl (by kernel_rfl) (by kernel_rfl) (by kernel_rfl) (fun _ _ _ h => h) (Or.inl ⟨by rfl, ?hyq12⟩) hHeld ?_
      case hyq12 => (intro w hSw; (try dsimp only at hSw); go_simp; (try with_reducible rfl))
      try simp only [Act.put, List.setIfInBounds_toArray, List.set_cons_zero, List.set_cons_succ]
      refine wpAnyH_take (i := 13) (oi := { dst := some 80, op := Op.move (Operand.tmp 1), type := 31, pos := "law.go:34", after := #[{ on := 8, ground := Ground.guard }], guard := some (8, true) }) (v := ?vq13) rfl (by kernel_rfl) (by kernel_rfl) (by kernel_rfl) (fun _ _ _ h => h) (Or.inl ⟨by rfl, ?hyq13⟩) hHeld ?_
      case hyq13 => (intro w hSw; (try dsimp only at hSw); go_simp; (try with_reducible rfl))
      try simp only [Act.put, List.setIfInBounds_toArray, List.set_cons_zero, List.set_cons_succ]
      refine wpAnyH_take (i := 14) (oi := { dst := some 81, op := Op.nilCheck (Operand.tmp 80), type := 0, pos := "law.go:34", after := #[{ on := 13, ground := Ground.data }, { on := 8, ground := Ground.guard }], guard := some (8, true) }) (v := ?vq14) rfl (by kernel_rfl) (by kernel_rfl) (by kernel_rfl) (fun _ _ _ h => h) (Or.inl ⟨by rfl, ?hyq14⟩) hHeld ?_
      case hyq14 => (intro w hSw; (try dsimp only at hSw); go_simp; (try with_reducible rfl))
      try simp only [Act.put, List.setIfInBounds_toArray, List.set_cons_zero, List.set_cons_succ]
      refine wpAnyH_take (i := 15) (oi := { dst := some 82, op := Op.fieldAddr 51 (Operand.tmp 81) 1, type := 0, pos := "law.go:34", after := #[{ on := 14, ground := Ground.data }, { on := 8, ground := Ground.guard }], guard := some (8, true) }) (v := ?vq15) rfl (by kernel_rfl) (by kernel_rfl) (by kernel_rfl) (fun _ _ _ h => h) (Or.inl ⟨by rfl, ?hyq15⟩) hHeld ?_
      case hyq15 => (intro w hSw; (try dsimp only at hSw); go_simp; (try with_reducible rfl))
      try simp only [Act.put, List.setIfInBounds_toArray, List.set_cons_zero, List.set_cons_succ]
      refine wpAnyH_take (i := 16) (oi := { dst := some 83, op := Op.load 47 (Operand.tmp 82), type := 47, pos := "law.go:34", after := #[{ on := 15, ground := Ground.data }, { on := 8, ground := Ground.guard }], guard := some (8, true) }) (v := ?vq16) rfl (by kernel_rfl) (by kernel_rfl) (by kernel_rfl) (fun _ _ _ h => h) (Or.inl ⟨by rfl, ?hyq16⟩) hHeld ?_
      case hyq16 => (intro w hSw; (try dsimp only at hSw); go_simp; (try with_reducible rfl))
      try simp only [Act.put, List.setIfInBounds_toArray, List.set_cons_zero, List.set_cons_succ]
      refine wpAnyH_ready (rs := [17]) (by kernel_rfl) (by simp) ?_
      refine AllReadyH.cons (o := { dst := some 84, op := Op.call { callee := Callee.value (Operand.func 17), args := #[Operand.tmp 83, Operand.const (Value.int IntKind.i64 0)], argTypes := #[47, 3] }, type := 3, pos := "law.go:34", after := #[{ on := 16, ground := Ground.data }, { on := 8, ground := Ground.chain }, { on := 8, ground := Ground.guard }], guard := some (8, true) }) rfl (fun K hK => ?_) AllReadyH.nil
      go_simp
      refine (HCd.out _ HSx.out).mono ?_
      rintro e V1 ⟨rfl, hb⟩
      have HT7 := Lib.hid (HT6.out.below hb)
      have w9 := HT7.out.cells9
      have z7 := w9.2.2.2.2.2.2.2.1
      have z8 := w9.2.2.2.2.2.2.2.2.1
      dsimp only at z7 z8
      clear hHeld y0 y1 y2 y3 y4 hb HCd HT6 HSx w9
      obtain ⟨y0, ⟨y1, y2, y3, y4⟩, _⟩ := HT7.out.hand.cells
      dsimp only at y1 y2 y3 y4
      refine hK.out _ _ ?_ (fun hHeld => ?_)
      · exact ⟨z7, z8, y0, y1, y2, y3, y4⟩
      clear hK K
      try simp only [Act.put, List.setIfInBounds_toArray, List.set_cons_zero, List.set_cons_succ]
      refine wpAnyH_ready (rs := [18]) (by kernel_rfl) (by simp) ?_
      refine AllReadyH.cons (o := { dst := some 85, op := Op.call { callee := Callee.value (Operand.func 19), args := #[Operand.tmp 79, Operand.tmp 84], argTypes := #[45, 3] }, type := 26, pos := "law.go:34", after := #[{ on := 12, ground := Ground.data }, { on := 17, ground := Ground.data }, { on := 17, ground := Ground.chain }, { on := 8, ground := Ground.guard }], guard := some (8, true) }) rfl (fun K hK => ?_) AllReadyH.nil
      go_simp
      refine (HL8.out _ _ _ HT7.out.hand.ar).mono ?_
      rintro e V2 ⟨rfl, rfl⟩
      clear hHeld HL8
      refine hK.out _ _ ?_ (fun hHeld => ?_)
      · exact ⟨z7, z8, y0, y1, y2, y3, y4⟩
      clear hK K
      try simp only [Act.put, List.setIfInBounds_toArray, List.set_cons_zero, List.set_cons_succ]
      refine wpAnyH_take (i := 19) (oi := { dst := some 86, op := Op.binOp BinOp.eql 26 (Operand.tmp 85) (Operand.const (Value.int IntKind.u64 3)) 26, type := 4, pos := "law.go:34", after := #[{ on := 18, ground := Ground.data }, { on := 8, ground := Ground.guard }], guard := some (8, true) }) (v := ?vq19) rfl (by kernel_rfl) (by kernel_rfl) (by kernel_rfl) (fun _ _ _ h => h) (Or.inl ⟨by rfl, ?hyq19⟩) hHeld ?_
      case hyq19 => (intro w hSw; (try dsimp only at hSw); go_simp; (try with_reducible rfl))
      try simp only [Act.put, List.setIfInBounds_toArray, List.set_cons_zero, List.set_cons_succ]
      refine wpAnyH_take (i := 20) (oi := { dst := some 87, op := Op.pick (Operand.tmp 75) (Operand.tmp 86) (Operand.const (Value.bool false)), type := 4, pos := "law.go:34", after := #[{ on := 8, ground := Ground.data }, { on := 19, ground := Ground.data }], guard := none }) (v := ?vq20) rfl (by kernel_rfl) (by kernel_rfl) (by kernel_rfl) (fun _ _ _ h => h) (Or.inl ⟨by rfl, ?hyq20⟩) hHeld ?_
      case hyq20 => (intro w hSw; (try dsimp only at hSw); go_simp; (try with_reducible rfl))
      try simp only [Act.put, List.setIfInBounds_toArray, List.set_cons_zero, List.set_cons_succ]
      refine wpAnyH_take (i := 21) (oi := { dst := some 0, op := Op.assign (Operand.tmp 87), type := 4, pos := "law.go:34", after := #[{ on := 20, ground := Ground.data }, { on := 18, ground := Ground.chain }, { on := 0, ground := Ground.phase }, { on := 1, ground := Ground.phase }, { on := 2, ground := Ground.phase }, { on := 3, ground := Ground.phase }, { on := 4, ground := Ground.phase }, { on := 5, ground := Ground.phase }, { on := 6, ground := Ground.phase }, { on := 7, ground := Ground.phase }, { on := 8, ground := Ground.phase }, { on := 9, ground := Ground.phase }, { on := 10, ground := Ground.phase }, { on := 11, ground := Ground.phase }, { on := 12, ground := Ground.phase }, { on := 13, ground := Ground.phase }, { on := 14, ground := Ground.phase }, { on := 15, ground := Ground.phase }, { on := 16, ground := Ground.phase }, { on := 17, ground := Ground.phase }, { on := 18, ground := Ground.phase }, { on := 19, ground := Ground.phase }, { on := 20, ground := Ground.phase }], guard := none }) (v := ?vq21) rfl (by kernel_rfl) (by kernel_rfl) (by kernel_rfl) (fun _ _ _ h => h) (Or.inl ⟨by rfl, ?hyq21⟩) hHeld ?_
      case hyq21 => (intro w hSw; (try dsimp only at hSw); go_simp; (try with_reducible rfl))
      try simp only [Act.put, List.setIfInBounds_toArray, List.set_cons_zero]
      refine wpAnyH_done (by kernel_rfl) ?_ _
      clear hHeld
      go_wp2_with fail
      go_ret
      exact ⟨rfl, HT7.out.old⟩
end Go.Proofs.YtganbjgkobmdkaaDoor
