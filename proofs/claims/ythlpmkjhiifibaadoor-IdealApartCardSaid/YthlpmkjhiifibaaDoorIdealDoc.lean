/- The document's store in memory: all that was put, the latest last; its Get, put, Reg, number and truth. -/
import Derived.Test.YthlpmkjhiifibaaDoorIdealAt
namespace Go.Proofs.YthlpmkjhiifibaaDoor
open Go Go.RowKit
set_option maxRecDepth 100000
attribute [local go_sem ↓] Go.wp_at_zero Go.wp_at_succ

/-- A value that was put. -/
structure PutN where
  k : Int
  a : Int
  b : Int
  w : Nat
/-- What was put last. -/
def getP (P : List PutN) : Vals := P.foldl (fun g p => putG g p.k p.a p.b p.w) (fun _ _ _ => 0)
theorem getP_snoc (P : List PutN) (p : PutN) : getP (P ++ [p]) = putG (getP P) p.k p.a p.b p.w := by simp [getP, List.foldl_append]
/-- The four values of each. -/
def putsL (P : List PutN) : List Value := P.flatMap fun p => [.int .i64 p.k, .int .i64 p.a, .int .i64 p.b, .int .u64 p.w]
theorem putsL_len (P : List PutN) : (putsL P).length = P.length * 4 := by
  induction P with
  | nil => rfl
  | cons p P ih =>
    have : putsL (p :: P) = [.int .i64 p.k, .int .i64 p.a, .int .i64 p.b, .int .u64 p.w] ++ putsL P := rfl
    rw [this, List.length_append, ih]; simp; omega
theorem putsL_get (P : List PutN) : ∀ (i : Nat) (p : PutN), P[i]? = some p → (putsL P)[i * 4]? = some (.int .i64 p.k) ∧ (putsL P)[i * 4 + 1]? = some (.int .i64 p.a) ∧ (putsL P)[i * 4 + 2]? = some (.int .i64 p.b) ∧ (putsL P)[i * 4 + 3]? = some (.int .u64 p.w) := by
  induction P with
  | nil => intro i p h; simp at h
  | cons q P ih =>
    intro i p h
    have e : putsL (q :: P) = .int .i64 q.k :: .int .i64 q.a :: .int .i64 q.b :: .int .u64 q.w :: putsL P := rfl
    rw [e]
    cases i with
    | zero =>
      obtain rfl : q = p := by simpa using h
      exact ⟨rfl, rfl, rfl, rfl⟩
    | succ i =>
      have := ih i p (by simpa using h)
      rw [show (i + 1) * 4 = i * 4 + 1 + 1 + 1 + 1 by omega]
      simpa [show i * 4 + 1 + 1 + 1 + 1 + 1 = i * 4 + 1 + 1 + 1 + 1 + 1 by omega] using this
theorem putsL_snoc (P : List PutN) (p : PutN) : putsL (P ++ [p]) = putsL P ++ [.int .i64 p.k, .int .i64 p.a, .int .i64 p.b, .int .u64 p.w] := by simp [putsL]
/-- The document's store at Y. -/
structure DocAt (w : World) (Y : Nat) (u : Value) (b c d : Nat) (s : St) (N : Nat) : Prop where
  box : w.heap[Y]? = some (.cells #[.int .i64 2, .int .i64 b, .int .i64 c, .int .i64 d, u, .int .i64 s.n] 55 (0, 0))
  puts : ∃ P : List PutN, P.length ≤ N ∧ getP P = s.g ∧ w.ownsRow 0 93 4 u P.length (putsL P)
  uY : u.ownBlock ≠ some Y
  few : N ≤ 100000
/-- The blocks of the document's store. -/
def dfoot (Y : Nat) (u : Value) (k : Nat) : Prop := k = Y ∨ u.ownBlock = some k
namespace DocAt
variable {w w' : World} {Y : Nat} {u : Value} {b c d : Nat} {s : St} {N : Nat}
theorem cells (h : DocAt w Y u b c d s N) : w.cell? ⟨Y, 0, none⟩ = some (.int .i64 2) ∧ w.cell? ⟨Y, 1, none⟩ = some (.int .i64 b) ∧ w.cell? ⟨Y, 2, none⟩ = some (.int .i64 c) ∧ w.cell? ⟨Y, 3, none⟩ = some (.int .i64 d) ∧ w.cell? ⟨Y, 4, none⟩ = some u ∧ w.cell? ⟨Y, 5, none⟩ = some (.int .i64 s.n) ∧ (∀ j, w.frozen? ⟨Y, j, none⟩ = false) := by
  have h := h.box
  refine ⟨by simp [World.cell?, h], by simp [World.cell?, h], by simp [World.cell?, h], by simp [World.cell?, h], by simp [World.cell?, h], by simp [World.cell?, h], fun j => by simp [World.frozen?, h]⟩
theorem lt (h : DocAt w Y u b c d s N) : ∀ k, dfoot Y u k → k < w.heap.size := by
  rintro k (rfl | e)
  · exact (Array.getElem?_eq_some_iff.1 h.box).1
  · obtain ⟨P, _, _, hr⟩ := h.puts
    exact (hr.lt k e).2
theorem other (h : DocAt w Y u b c d s N) (e : ∀ k, dfoot Y u k → w'.heap[k]? = w.heap[k]?) : DocAt w' Y u b c d s N := by
  refine ⟨(e Y (.inl rfl)).trans h.box, ?_, h.uY, h.few⟩
  obtain ⟨P, h1, h2, hr⟩ := h.puts
  refine ⟨P, h1, h2, hr.1, ?_⟩
  rcases hr.2 with h0 | ⟨M, cap, cur, rfl, hb, hM, rest⟩
  · exact .inl h0
  · exact .inr ⟨M, cap, cur, rfl, hb, (e M (.inr rfl)).trans hM, rest⟩
theorem below (h : DocAt w Y u b c d s N) (hb : Below w.heap.size w w') : DocAt w' Y u b c d s N := h.other (fun k hk => hb.block k (h.lt k hk))
theorem drew (h : DocAt w Y u b c d s N) : DocAt w.drew Y u b c d s N := h.other (fun _ _ => rfl)
theorem sav (h : DocAt w Y u b c d s N) {S : Nat → Prop} (hb : Sav S w w') (hs : ∀ k, dfoot Y u k → ¬ S k) : DocAt w' Y u b c d s N := h.other (fun k hk => hb.block k (h.lt k hk) (hs k hk))
end DocAt
section
variable {w : World} {Y : Nat} {u : Value} {b c d : Nat} {s : St} {N : Nat}
theorem refTruth_c (r : Bool) (w : World) : Calls Tryd.prog 37 #[.bool r] w fun e w' => e = .returned (.int .i64 (if r then 2 else 3)) ∧ w = w' := by
  cases r
  all_goals
    go_enter Tryd.func37, Tryd.ntmps37
    go_wp2
    go_ret
    exact ⟨rfl, rfl⟩
theorem number_even (x : Nat) (hp : x % 2 = 0) (w : World) : Calls Tryd.prog 35 #[.int .u64 x] w fun e w' => e = .returned (.int .i64 (-1)) ∧ w = w' := by
  go_enter Tryd.func35, Tryd.ntmps35
  go_wp2
  go_ret
  exact ⟨rfl, rfl⟩
theorem number_odd (x : Nat) (hx : x < 18446744073709551616) (hp : x % 2 = 1) (w : World) : Calls Tryd.prog 35 #[.int .u64 x] w fun e w' => e = .returned (.int .i64 (x / 2 : Nat)) ∧ w = w' := by
  have hx2 : x / 2 < 9223372036854775808 := by omega
  go_enter Tryd.func35, Tryd.ntmps35
  go_wp2
  go_ret
  exact ⟨rfl, rfl⟩
set_option maxHeartbeats 1600000 in
theorem Get_c (h : DocAt w Y u b c d s N) (k i j : Int) : Calls Tryd.prog 36 #[.pointer (some ⟨Y, 0, none⟩), .int .i64 k, .int .i64 i, .int .i64 j] w fun e w' => e = .returned (.int .u64 (s.g k i j)) ∧ Below w.heap.size w w' := by
  obtain ⟨P, hPN, hPg, hrow⟩ := h.puts
  obtain ⟨_, _, _, _, c4, _, _⟩ := h.cells
  rw [← hPg]
  have hfew : P.length ≤ 100000 := Nat.le_trans hPN h.few
  have lY : Y < w.heap.size := h.lt Y (.inl rfl)
  have HD := Lib.hid h
  have HE : Hid (∀ t, t < P.length → ∀ W, Below w.heap.size w W → ∃ (M cap : Nat) (p : PutN), u = .slice (some ⟨M, 0, none⟩) P.length cap ∧ M < w.heap.size ∧ getP (P.take (t + 1)) = putG (getP (P.take t)) p.k p.a p.b p.w ∧ W.cell? ⟨M, t * 4, none⟩ = some (.int .i64 p.k) ∧ W.cell? ⟨M, t * 4 + 1, none⟩ = some (.int .i64 p.a) ∧ W.cell? ⟨M, t * 4 + 2, none⟩ = some (.int .i64 p.b) ∧ W.cell? ⟨M, t * 4 + 3, none⟩ = some (.int .u64 p.w)) := Lib.hid (fun t hlt W hW => by
    obtain ⟨M, cap, rfl, _, hM⟩ := hrow.form (by omega)
    have hg := putsL_get P t P[t] (List.getElem?_eq_getElem hlt)
    have hadd : ∀ q, (⟨M, 0, none⟩ : Addr).add q = ⟨M, q, none⟩ := fun q => by unfold Addr.add; split <;> simp_all
    have hc0 := fun q v e => hrow.cells (g := M) rfl q v e
    simp only [hadd] at hc0
    have hc := fun q v e => (hW.cell (p := ⟨M, q, none⟩) hM).trans (hc0 q v e)
    refine ⟨M, cap, P[t], rfl, hM, ?_, hc _ _ hg.1, hc _ _ hg.2.1, hc _ _ hg.2.2.1, hc _ _ hg.2.2.2⟩
    rw [← getP_snoc, List.take_succ_eq_append_getElem hlt])
  obtain ⟨a0, cap0, rfl⟩ : ∃ a cap, u = .slice a P.length cap := by
    rcases hrow.2 with ⟨rfl, e⟩ | ⟨g, cap, cur, rfl, _⟩
    · exact ⟨_, _, by rw [e]⟩
    · exact ⟨_, _, rfl⟩
  have HS : Hid (∀ W, Below w.heap.size w W → W.cell? ⟨Y, 4, none⟩ = some (.slice a0 P.length cap0)) := Lib.hid (fun W hW => (hW.cell (p := ⟨Y, 4, none⟩) lY).trans c4)
  have HF : Hid (getP (P.take P.length) k i j = getP P k i j) := Lib.hid (by rw [List.take_length])
  have HZ : Hid (getP (P.take 0) k i j = 0) := Lib.hid (by simp [getP])
  clear hrow h hPN hPg HD
  generalize getP P k i j = r at *
  generalize hn : P.length = n at *
  go_enter Tryd.func36, Tryd.ntmps36
  go_wp2_with fail
  have HG : Hid (∀ t : Nat, ((t : Int) = 0 → (t : Int) - 1 = -1)) := Lib.hid (by omega)
  clear HG
  go_loopw [9] (fun vi wr => ∃ t : Nat, vi = .int .i64 ((t : Int) - 1) ∧ t ≤ n ∧ Hid (getP (P.take t) k i j = r) ∧ Hid (Below w.heap.size w wr)) (fun vi _ => (intOf vi + 1).toNat)
  case atStart => exact ⟨n, rfl, Nat.le_refl _, HF, Lib.hid (Below.refl _ _)⟩
  case round =>
    obtain ⟨t, rfl, ht, HR, HB⟩ := hrel
    have c4' := HS.out _ HB.out
    cases t with
    | zero =>
      have HV : Hid (r = 0) := Lib.hid (by rw [← HR.out]; exact HZ.out)
      clear HR
      go_wp2_with fail
      go_ret
      rw [HV.out]
      exact ⟨rfl, HB.out⟩
    | succ t =>
      obtain ⟨M, cap, p, hu, hM, hget, c0, c1, c2, c3⟩ := HE.out t (by omega) wr HB.out
      cases hu
      rw [show (((t + 1 : Nat) : Int) - 1) = (t : Int) by omega]
      have HR1 : Hid (putG (getP (P.take t)) p.k p.a p.b p.w k i j = r) := Lib.hid (by rw [← hget]; exact HR.out)
      clear HR hget
      have hlM : M < wr.heap.size := lt_of_cell c0
      have hnM : M ≠ wr.heap.size := by omega
      have hnY : Y ≠ wr.heap.size := by have := lt_of_cell c4'; omega
      obtain ⟨pk, pa, pb, pw⟩ := p
      dsimp only at c0 c1 c2 c3 HR1
      have HB1 := Lib.hid (belowOn HB.out (below_new wr (.cells #[.int .i64 pk, .int .i64 pa, .int .i64 pb, .int .u64 pw] 93)))
      clear HB HE HS HF HZ
      have htn : t < n := by omega
      by_cases e1 : pk = k
      · by_cases e2 : pa = i
        · by_cases e3 : pb = j
          · subst e1 e2 e3
            have HV : Hid (r = pw) := Lib.hid (by rw [← HR1.out]; exact putG_same _ _ _ _ _)
            clear HR1
            go_wp2_with fail
            go_ret
            rw [HV.out]
            exact ⟨rfl, HB1.out⟩
          · have HR : Hid (getP (P.take t) k i j = r) := Lib.hid (by rw [← HR1.out]; exact (putG_other _ _ (fun e => e3 e.2.2.symm)).symm)
            have q : (pb == j) = false := by simpa using e3
            subst e1 e2
            clear HR1
            go_wp2_with fail
            go_roundw
            case rel => exact ⟨t, by go_num, by omega, HR, HB1⟩
            case measure => simp [intOf]
        · have HR : Hid (getP (P.take t) k i j = r) := Lib.hid (by rw [← HR1.out]; exact (putG_other _ _ (fun e => e2 e.2.1.symm)).symm)
          have q : (pa == i) = false := by simpa using e2
          subst e1
          clear HR1
          go_wp2_with fail
          go_roundw
          case rel => exact ⟨t, by go_num, by omega, HR, HB1⟩
          case measure => simp [intOf]
      · have HR : Hid (getP (P.take t) k i j = r) := Lib.hid (by rw [← HR1.out]; exact (putG_other _ _ (fun e => e1 e.1.symm)).symm)
        have q : (pk == k) = false := by simpa using e1
        clear HR1
        go_wp2_with fail
        go_roundw
        case rel => exact ⟨t, by go_num, by omega, HR, HB1⟩
        case measure => simp [intOf]
theorem refReg_c (h : DocAt w Y u b c d s N) (m r : Int) : Calls Tryd.prog 34 #[.pointer (some ⟨Y, 0, none⟩), .int .i64 m, .int .i64 r] w fun e w' => e = .returned (.int .u64 (s.g 0 m r)) ∧ Below w.heap.size w w' := by
  have HG := Lib.hid (Get_c h 0 m r)
  clear h
  generalize s.g 0 m r = x at *
  go_enter Tryd.func34, Tryd.ntmps34
  go_wp2_with fail
  refine HG.out.mono ?_
  rintro e W ⟨rfl, hW⟩
  have HB := Lib.hid hW
  clear HG hW
  go_wp2_with fail
  go_ret
  exact ⟨rfl, HB.out⟩
theorem infoPut : (Tryd.prog.info? 93).map (fun i => (i.zero, i.size, i.bytes)) = some (some (.agg #[.int .i64 0, .int .i64 0, .int .i64 0, .int .u64 0]), 4, 32) := by kernel_rfl
/-- What a part of the document's Do answers. -/
def PutPost (w : World) (Y : Nat) (u : Value) (b c d : Nat) (s : St) (N : Nat) (a : Value) (e : Ending) (w' : World) : Prop :=
  ∃ u', e = .returned a ∧ DocAt w' Y u' b c d s N ∧ (∀ k, u'.ownBlock = some k → u.ownBlock = some k ∨ w.heap.size ≤ k) ∧ Sav (dfoot Y u) w w'
set_option maxHeartbeats 1600000 in
theorem put_c (h : DocAt w Y u b c d s N) (hN : N + 1 ≤ 100000) (k i j xv : Int) (x : Nat) (hx : xv = x) : Calls Tryd.prog 33 #[.pointer (some ⟨Y, 0, none⟩), .int .i64 k, .int .i64 i, .int .i64 j, .int .u64 xv] w (PutPost w Y u b c d ⟨putG s.g k i j x, s.n⟩ (N + 1) (.tuple #[])) := by
  obtain ⟨i3, hi3, hz0, hz1, hz2⟩ := info_parts infoPut
  obtain ⟨P, hPN, hPg, hrow⟩ := h.puts
  obtain ⟨_, _, _, _, c4, _, hfz⟩ := h.cells
  have f4 := hfz 4
  have lY : Y < w.heap.size := h.lt Y (.inl rfl)
  have nY : Y ≠ w.heap.size := by omega
  have HZ : Hid (∀ (W2 : World) (g cap : Nat), W2.ownsRow 0 93 4 (.slice (some ⟨g, 0, none⟩) (P.length + 1) cap) (P.length + 1) (putsL P ++ [.int .i64 k, .int .i64 i, .int .i64 j, .int .u64 xv]) → (w.alloc (.cells #[.int .i64 k, .int .i64 i, .int .i64 j, .int .u64 xv] 93)).grownBy W2 u.ownBlock → (u.ownBlock = some g ∨ g = w.heap.size + 1) →
      (W2.cell? ⟨Y, 4, none⟩ = some u ∧ W2.frozen? ⟨Y, 4, none⟩ = false) ∧ PutPost w Y u b c d ⟨putG s.g k i j x, s.n⟩ (N + 1) (.tuple #[]) (.returned (.tuple #[])) (W2.setCell ⟨Y, 4, none⟩ (.slice (some ⟨g, 0, none⟩) (P.length + 1) cap))) := Lib.hid (fun W2 g cap hown hgrow hat => by
    have hb := below_new w (.cells #[.int .i64 k, .int .i64 i, .int .i64 j, .int .u64 xv] 93)
    have h1 := h.below hb
    obtain ⟨_, _, _, _, d4, _, dz⟩ := h1.cells
    have lY1 := h1.lt Y (.inl rfl)
    refine ⟨⟨(hgrow.cell_far ⟨Y, 4, none⟩ lY1 (fun e => h.uY e.symm)).trans d4, (hgrow.frozen_far ⟨Y, 4, none⟩ lY1 (fun e => h.uY e.symm)).trans (dz 4)⟩, .slice (some ⟨g, 0, none⟩) (P.length + 1) cap, rfl, ?_, ?_, ?_⟩
    · have bY := (hgrow.block Y lY1 (fun e => h.uY e.symm)).trans h1.box
      have hgY : g ≠ Y := by
        rcases hat with e | e
        · intro e'; exact h.uY (e' ▸ e)
        · omega
      refine ⟨by simp [World.setCell, Array.getElem?_modify, bY], ⟨P ++ [⟨k, i, j, x⟩], by simp; omega, by rw [getP_snoc, hPg], ?_⟩, by simpa [Value.ownBlock] using hgY, hN⟩
      rw [putsL_snoc, List.length_append]
      rw [hx] at hown
      refine ⟨hown.1, ?_⟩
      rcases hown.2 with h0 | ⟨M, cap', cur, hv, hb', hM, rest⟩
      · exact .inl h0
      · cases hv
        exact .inr ⟨_, _, cur, rfl, hb', (Below.heap_setCell _ _ _ _ hgY).trans hM, rest⟩
    · intro q e
      obtain rfl : g = q := by simpa [Value.ownBlock] using e
      rcases hat with e | e
      · exact .inl e
      · exact .inr (by omega)
    · have hs : Sav (dfoot Y u) w W2 := (Sav.of hb).trans ⟨hgrow.os, hgrow.tape, hgrow.output, hgrow.size, fun k hk hn => hgrow.block k hk (fun e => hn (.inr e.symm))⟩
      exact hs.set (p := ⟨Y, 4, none⟩) (.inl (.inl rfl)) _)
  have hlen : P.length + 1 ≤ 100000 := by omega
  have hnb : ∀ q v, ([.int .i64 k, .int .i64 i, .int .i64 j, .int .u64 xv] : List Value)[q]? = some v → (w.alloc (.cells #[.int .i64 k, .int .i64 i, .int .i64 j, .int .u64 xv] 93)).cell? ((⟨w.heap.size, 0, none⟩ : Addr).add q) = some v := World.news_of_block (cs := #[.int .i64 k, .int .i64 i, .int .i64 j, .int .u64 xv]) (newBlock w _)
  have HN := Lib.hid hnb
  have HO := Lib.hid (hrow.alloc (.cells #[.int .i64 k, .int .i64 i, .int .i64 j, .int .u64 xv] 93))
  clear h hPN hPg hrow hfz hnb hx hN
  generalize putsL P = xs at *
  generalize P.length = n at *
  go_enter Tryd.func33, Tryd.ntmps33
  go_wp2_with (at_builtin; refine wpList_append_lies _ (by rfl) _ _ _ (by rfl) 0 93 i3 _ 4 32 Tryd.underlying53 hi3 hz0 hz1 hz2 rfl (by omega) u n _ (by rfl) HO.out ⟨w.heap.size, 0, none⟩ 1 1 [.int .i64 k, .int .i64 i, .int .i64 j, .int .u64 xv] (by rfl) (by rfl) HN.out (by simp [Value.oneCell']) (by omega) (by unfold maxLen; omega) (by omega) (Nat.zero_le _) (w.heap.size + 1) (by simp) ?_; intro g cap W2 hown hgrow hat hlt; have HK := Lib.hid (HZ.out W2 g cap hown hgrow hat); obtain ⟨c4', f4'⟩ := HK.out.1; clear hown hgrow hat hlt)
  go_end0
  exact HK.out.2
end
end Go.Proofs.YthlpmkjhiifibaaDoor
