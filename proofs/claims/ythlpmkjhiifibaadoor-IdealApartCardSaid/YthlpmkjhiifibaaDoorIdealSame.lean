/- The laws' own first look (awake), and whether a store is as the document's (same): of two that are alike. -/
import Derived.Test.YthlpmkjhiifibaaDoorIdealDo
import Derived.Test.YthlpmkjhiifibaaDoorIdealRefDoZ
namespace Go.Proofs.YthlpmkjhiifibaaDoor
open Go Go.RowKit
set_option maxRecDepth 100000
attribute [local go_sem ↓] Go.wp_at_zero Go.wp_at_succ

theorem first_cons : doR 1 1 0 st0 0 3 0 0 0 false = 1 ∧ (doS 1 1 0 st0 0 3 0 0 0 false).g 0 0 0 = 1 ∧ (doS 1 1 0 st0 0 3 0 0 0 false).g 2 0 0 = 0 ∧ (doS 1 1 0 st0 0 3 0 0 0 false).n = 1 := by decide
theorem awake_c (w : World) (hS : SpansAt w) (hRw : RowsAt w) : Calls Tryd.prog 7 #[] w fun e w' => e = .returned (.bool true) ∧ Below w.heap.size w w' := by
  have HN := Lib.hid (New_yes 1 1 0 (by decide) w hS)
  have HS := Lib.hid hS; have HR := Lib.hid hRw
  clear hS hRw
  go_enter Tryd.func7, Tryd.ntmps7
  go_wp2_with fail
  refine HN.out.mono ?_
  rintro e W1 ⟨X, R, L, rfl, h1, l1, l2, l3, hB1⟩
  have HD := Lib.hid (Do_c h1 (HS.out.below hB1) (HR.out.below hB1) 0 3 0 0 0 false (by decide))
  have HB1 := Lib.hid hB1
  obtain ⟨e1, e2, e3, e4⟩ := first_cons
  rw [e1] at HD
  have HL : Hid (w.heap.size ≤ X ∧ w.heap.size ≤ R ∧ w.heap.size ≤ L) := Lib.hid ⟨l1, l2, l3⟩
  clear hB1 h1 l1 l2 l3 HN HS HR e1
  go_wp2_with fail
  refine HD.out.mono ?_
  rintro e W2 ⟨v, rfl, h2, _, hs⟩
  have hB2 : Below w.heap.size w W2 := HB1.out.trans (hs.below HB1.out.size (fun k hk hf => by
    have := HL.out
    rcases hf with e | e | e | e
    · omega
    · omega
    · omega
    · simp [Value.ownBlock] at e))
  have HG := Lib.hid (Reg_c h2 0 0)
  rw [e2] at HG
  have HH := Lib.hid h2; have HB2 := Lib.hid hB2
  generalize doS 1 1 0 st0 0 3 0 0 0 false = s at *
  clear h2 hB2 hs HD HL HB1 e2
  go_wp2_with fail
  refine HG.out.mono ?_
  rintro e W3 ⟨rfl, hW3⟩
  have HH3 := Lib.hid (HH.out.below hW3); have HB3 := Lib.hid (belowOn HB2.out hW3)
  have HC := Lib.hid (Car_c HH3.out 0)
  rw [e3] at HC
  clear hW3 HH HB2 HG e3
  go_wp2_with fail
  refine HC.out.mono ?_
  rintro e W4 ⟨rfl, hW4⟩
  have HH4 := Lib.hid (HH3.out.below hW4); have HB4 := Lib.hid (belowOn HB3.out hW4)
  have HE := Lib.hid (Len_c HH4.out)
  rw [e4] at HE
  clear hW4 HH3 HB3 HC e4
  go_wp2_with fail
  refine HE.out.mono ?_
  rintro e W5 ⟨rfl, rfl⟩
  clear HE
  go_wp2_with fail
  go_ret
  exact ⟨rfl, HB4.out⟩
set_option maxHeartbeats 3200000 in
theorem same_c {w : World} {X R L : Nat} {v : Value} {Y : Nat} {u : Value} {b c d : Nat} {s : St} {N : Nat} (h : StoreAt w X R L v b c d s) (hd : DocAt w Y u b c d s N) :
    Calls Tryd.prog 14 #[.pointer (some ⟨X, 0, none⟩), .pointer (some ⟨Y, 0, none⟩)] w fun e w' => e = .returned (.bool true) ∧ Below w.heap.size w w' := by
  have HL : Hid (∀ W, StoreAt W X R L v b c d s → _) := Lib.hid (fun W hW => Len_c (w := W) hW)
  have HA : Hid (∀ W, Below w.heap.size w W → StoreAt W X R L v b c d s) := Lib.hid (fun W hW => h.below hW)
  have HD : Hid (∀ W, Below w.heap.size w W → DocAt W Y u b c d s N) := Lib.hid (fun W hW => hd.below hW)
  have hn1 := h.n1
  obtain ⟨hb1, hb2, hc1, hc2, hd2⟩ := hn1
  have hfew := h.few
  obtain ⟨_, y1, y2, y3, _, y5, _⟩ := hd.cells
  have HHd := Lib.hid h.drew
  clear h hd
  go_enter Tryd.func14, Tryd.ntmps14
  go_wp2_with fail
  refine wp_region_held_drew (S := (fun w' => w'.cell? ⟨Y, 5, none⟩ = some (.int .i64 s.n))) (by kernel_rfl) ?_ (fun hHeld => ?_)
  · exact y5
  refine wpAnyH_take (i := 0) (oi := { dst := some 9, op := Op.move (Operand.tmp 0), type := 27, pos := "law.go:27", after := #[], guard := none }) (v := ?vs0) rfl (by kernel_rfl) (by kernel_rfl) (by kernel_rfl) (fun _ _ _ h => h) (Or.inl ⟨by rfl, ?hys0⟩) hHeld ?_
  case hys0 => (intro w hSw; (try dsimp only at hSw); go_simp; (try with_reducible rfl))
  try simp only [Act.put, List.setIfInBounds_toArray, List.set_cons_zero, List.set_cons_succ]
  refine wpAnyH_take (i := 2) (oi := { dst := some 11, op := Op.move (Operand.tmp 1), type := 31, pos := "law.go:27", after := #[], guard := none }) (v := ?vs2) rfl (by kernel_rfl) (by kernel_rfl) (by kernel_rfl) (fun _ _ _ h => h) (Or.inl ⟨by rfl, ?hys2⟩) hHeld ?_
  case hys2 => (intro w hSw; (try dsimp only at hSw); go_simp; (try with_reducible rfl))
  try simp only [Act.put, List.setIfInBounds_toArray, List.set_cons_zero, List.set_cons_succ]
  refine wpAnyH_take (i := 3) (oi := { dst := some 12, op := Op.nilCheck (Operand.tmp 11), type := 0, pos := "law.go:27", after := #[{ on := 2, ground := Ground.data }], guard := none }) (v := ?vs3) rfl (by kernel_rfl) (by kernel_rfl) (by kernel_rfl) (fun _ _ _ h => h) (Or.inl ⟨by rfl, ?hys3⟩) hHeld ?_
  case hys3 => (intro w hSw; (try dsimp only at hSw); go_simp; (try with_reducible rfl))
  try simp only [Act.put, List.setIfInBounds_toArray, List.set_cons_zero, List.set_cons_succ]
  refine wpAnyH_take (i := 4) (oi := { dst := some 13, op := Op.fieldAddr 55 (Operand.tmp 12) 2, type := 0, pos := "law.go:27", after := #[{ on := 3, ground := Ground.data }], guard := none }) (v := ?vs4) rfl (by kernel_rfl) (by kernel_rfl) (by kernel_rfl) (fun _ _ _ h => h) (Or.inl ⟨by rfl, ?hys4⟩) hHeld ?_
  case hys4 => (intro w hSw; (try dsimp only at hSw); go_simp; (try with_reducible rfl))
  try simp only [Act.put, List.setIfInBounds_toArray, List.set_cons_zero, List.set_cons_succ]
  refine wpAnyH_take (i := 5) (oi := { dst := some 14, op := Op.load 3 (Operand.tmp 13), type := 3, pos := "law.go:27", after := #[{ on := 4, ground := Ground.data }], guard := none }) (v := ?vs5) rfl (by kernel_rfl) (by kernel_rfl) (by kernel_rfl) (fun _ _ _ h => h) (Or.inl ⟨by rfl, ?hys5⟩) hHeld ?_
  case hys5 => (intro w hSw; (try dsimp only at hSw); go_simp; (try with_reducible rfl))
  try simp only [Act.put, List.setIfInBounds_toArray, List.set_cons_zero, List.set_cons_succ]
  refine wpAnyH_ready (rs := [1]) (by kernel_rfl) (by simp) ?_
  refine AllReadyH.cons (o := { dst := some 10, op := Op.call { callee := Callee.value (Operand.func 19), args := #[Operand.tmp 9], argTypes := #[27] }, type := 3, pos := "law.go:27", after := #[{ on := 0, ground := Ground.data }], guard := none }) rfl (fun K hK => ?_) AllReadyH.nil
  go_simp
  refine (HL.out _ HHd.out).mono ?_
  rintro e W1 ⟨rfl, rfl⟩
  refine hK.out _ _ ?_ (fun hHeld => ?_)
  · exact y5
  clear hK K
  try simp only [Act.put, List.setIfInBounds_toArray, List.set_cons_zero, List.set_cons_succ]
  refine wpAnyH_take (i := 6) (oi := { dst := some 15, op := Op.binOp BinOp.neq 3 (Operand.tmp 10) (Operand.tmp 14) 3, type := 4, pos := "law.go:27", after := #[{ on := 1, ground := Ground.data }, { on := 5, ground := Ground.data }], guard := none }) (v := ?vs6) rfl (by kernel_rfl) (by kernel_rfl) (by kernel_rfl) (fun _ _ _ h => h) (Or.inl ⟨by rfl, ?hys6⟩) hHeld ?_
  case hys6 => (intro w hSw; (try dsimp only at hSw); go_simp; (try with_reducible rfl))
  try simp only [Act.put, List.setIfInBounds_toArray, List.set_cons_zero, List.set_cons_succ]
  refine wpAnyH_done (by kernel_rfl) ?_ _
  clear hHeld HL HHd
  go_wp2_with fail
  go_loopw [5] (fun vm wr => ∃ m : Int, vm = .int .i64 m ∧ -1 ≤ m ∧ m ≤ (b : Int) + 1 ∧ Hid (Below w.heap.size w wr)) (fun vm _ => ((b : Int) + 2 - intOf vm).toNat)
  case atStart => exact ⟨-1, rfl, by omega, by omega, Lib.hid (Below.refl _ _).drew⟩
  case round =>
    clear y1 y2 y3 y5
    obtain ⟨m, rfl, hm0, hm1, HB⟩ := hrel
    obtain ⟨_, y1, y2, y3, _, y5, _⟩ := (HD.out _ HB.out).cells
    by_cases hlt : m ≤ b
    · go_wp2_with fail
      go_loopw [6] (fun vr wr => ∃ r : Int, vr = .int .i64 r ∧ -1 ≤ r ∧ r ≤ (c : Int) + 1 ∧ Hid (Below w.heap.size w wr)) (fun vr _ => ((c : Int) + 2 - intOf vr).toNat)
      case atStart => exact ⟨-1, rfl, by omega, by omega, HB⟩
      case round =>
        clear y1 y2 y3 y5 HB
        obtain ⟨r, rfl, hr0, hr1, HB⟩ := hrel
        obtain ⟨_, y1, y2, y3, _, y5, _⟩ := (HD.out _ HB.out).cells
        by_cases hlr : r ≤ c
        · have HG := Lib.hid (Reg_c (HA.out _ HB.out) m r)
          have HG2 : Hid (∀ W, Below w.heap.size w W → _) := Lib.hid (fun W hW => refReg_c (HD.out W hW) m r)
          generalize s.g 0 m r = x at *
          go_wp2_with fail
          refine HG.out.mono ?_
          rintro e W1 ⟨rfl, hW1⟩
          have HB1 := Lib.hid (belowOn HB.out hW1)
          clear HG HB hW1 y1 y2 y3 y5
          go_wp2_with fail
          refine (HG2.out _ HB1.out).mono ?_
          rintro e W2 ⟨rfl, hW2⟩
          have HB2 := Lib.hid (belowOn HB1.out hW2)
          clear HG2 HB1 hW2
          go_wp2_with fail
          go_roundw
          case rel => exact ⟨r + 1, by go_num, by omega, by omega, HB2⟩
          case measure => simp [intOf]; omega
        · have hre : r = (c : Int) + 1 := by omega
          subst hre
          go_wp2_with fail
          go_roundw
          case rel => exact ⟨m + 1, by go_num, by omega, by omega, HB⟩
          case measure => simp [intOf]; omega
    · have hme : m = (b : Int) + 1 := by omega
      subst hme
      go_wp2_with fail
      go_loopw [7] (fun vg wr => ∃ g : Int, vg = .int .i64 g ∧ -1 ≤ g ∧ g ≤ (d : Int) + 1 ∧ Hid (Below w.heap.size w wr)) (fun vg _ => ((d : Int) + 2 - intOf vg).toNat)
      case atStart => exact ⟨-1, rfl, by omega, by omega, HB⟩
      case round =>
        clear y1 y2 y3 y5 HB
        obtain ⟨g, rfl, hg0, hg1, HB⟩ := hrel
        obtain ⟨_, y1, y2, y3, _, y5, _⟩ := (HD.out _ HB.out).cells
        by_cases hlg : g ≤ d
        · have HG := Lib.hid (Glob_c (HA.out _ HB.out) g)
          have HG2 : Hid (∀ W, Below w.heap.size w W → _) := Lib.hid (fun W hW => Get_c (HD.out W hW) 1 g 0)
          generalize s.g 1 g 0 = x at *
          go_wp2_with fail
          refine HG.out.mono ?_
          rintro e W1 ⟨rfl, hW1⟩
          have HB1 := Lib.hid (belowOn HB.out hW1)
          clear HG HB hW1 y1 y2 y3 y5
          go_wp2_with fail
          refine (HG2.out _ HB1.out).mono ?_
          rintro e W2 ⟨rfl, hW2⟩
          have HB2 := Lib.hid (belowOn HB1.out hW2)
          clear HG2 HB1 hW2
          go_wp2_with fail
          go_roundw
          case rel => exact ⟨g + 1, by go_num, by omega, by omega, HB2⟩
          case measure => simp [intOf]; omega
        · have hge : g = (d : Int) + 1 := by omega
          subst hge
          go_wp2_with fail
          go_loopw [8] (fun vi wr => ∃ i : Int, vi = .int .i64 i ∧ -1 ≤ i ∧ i ≤ (s.n : Int) + 1 ∧ Hid (Below w.heap.size w wr)) (fun vi _ => ((s.n : Int) + 2 - intOf vi).toNat)
          case atStart => exact ⟨-1, rfl, by omega, by omega, HB⟩
          case round =>
            clear y1 y2 y3 y5 HB
            obtain ⟨i, rfl, hi0, hi1, HB⟩ := hrel
            obtain ⟨_, y1, y2, y3, _, y5, _⟩ := (HD.out _ HB.out).cells
            by_cases hli : i ≤ s.n
            · have HG := Lib.hid (Car_c (HA.out _ HB.out) i)
              have HG2 : Hid (∀ W, Below w.heap.size w W → _) := Lib.hid (fun W hW => Get_c (HD.out W hW) 2 i 0)
              have HG3 : Hid (∀ W, Below w.heap.size w W → _) := Lib.hid (fun W hW => Cdr_c (HA.out W hW) i)
              have HG4 : Hid (∀ W, Below w.heap.size w W → _) := Lib.hid (fun W hW => Get_c (HD.out W hW) 3 i 0)
              generalize s.g 2 i 0 = x at *
              generalize s.g 3 i 0 = x' at *
              go_wp2_with fail
              refine HG.out.mono ?_
              rintro e W1 ⟨rfl, hW1⟩
              have HB1 := Lib.hid (belowOn HB.out hW1)
              clear HG HB hW1 y1 y2 y3 y5
              go_wp2_with fail
              refine (HG2.out _ HB1.out).mono ?_
              rintro e W2 ⟨rfl, hW2⟩
              have HB2 := Lib.hid (belowOn HB1.out hW2)
              clear HG2 HB1 hW2
              go_wp2_with fail
              refine (HG3.out _ HB2.out).mono ?_
              rintro e W3 ⟨rfl, hW3⟩
              have HB3 := Lib.hid (belowOn HB2.out hW3)
              clear HG3 HB2 hW3
              go_wp2_with fail
              refine (HG4.out _ HB3.out).mono ?_
              rintro e W4 ⟨rfl, hW4⟩
              have HB4 := Lib.hid (belowOn HB3.out hW4)
              clear HG4 HB3 hW4
              go_wp2_with fail
              go_roundw
              case rel => exact ⟨i + 1, by go_num, by omega, by omega, HB4⟩
              case measure => simp [intOf]; omega
            · have hie : i = (s.n : Int) + 1 := by omega
              subst hie
              go_wp2_with fail
              go_ret
              exact ⟨rfl, HB.out⟩
end Go.Proofs.YthlpmkjhiifibaaDoor
