/- TicketQueue answers true. -/
import Derived.Test.YtglmecdbafceoaaDoorTickQc
namespace Go.Proofs.YtglmecdbafceoaaDoor
open Go Go.RowKit
set_option maxRecDepth 100000
attribute [local go_sem ↓] Go.wp_at_zero Go.wp_at_succ

set_option maxHeartbeats 6400000 in
theorem queue_any (fr : Int) (hfr : U64 fr) (nb : Nat) (hnb : nb < 256) (v0 : Option Addr) (n0 c0 : Nat) (pk : Nat → Nat) (w : World) (hS : SpansAt w) (hG : GivenB w v0 n0 pk) :
    Calls Tryd.prog 4 #[.int .u64 (fr : Int), .int .u8 (nb : Int), .slice v0 n0 c0] w fun e w' => e = .returned (.bool true) ∧ Below w.heap.size w w' := by
  have hmf : ∀ (fn : Fn) (first cap : Array Value) (w : World), (Instr.makeFunc fn first cap).run Tryd.prog w = .ok (.func fn first cap) w := fun _ _ _ _ => rfl
  have HN : Hid (∀ W, Calls Tryd.prog _ _ W (FirstNew W 2 1 1 0)) := Lib.hid (fun W => refFirst_new 2 1 1 0 right0 W)
  have HFR : Hid (∀ va cap W, SpansAt W → WordsAt W va 13 (qF fr) → _) := Lib.hid (fun va cap W h1 h2 => From_right 2 1 1 0 right0 va 13 cap (qF fr) (by omega) W h1 h2)
  have HS := Lib.hid hS; have HG := Lib.hid hG; have HFu := Lib.hid hfr
  have HA := Lib.hid (awake_c w hS)
  clear hS hG hfr
  go_enter Tryd.func4, Tryd.ntmps4
  go_wp2_with fail
  refine HA.out.mono ?_
  rintro e W1 ⟨rfl, hW⟩
  have HB1 := Lib.hid hW
  clear hW HA
  by_cases h600 : (600 : Int) < (n0 : Int)
  · go_wp2_with fail
    go_ret
    exact ⟨rfl, HB1.out⟩
  obtain ⟨k, hk⟩ : ∃ k : Nat, k = 1 + nb % 6 := ⟨_, rfl⟩
  have hk0 : 1 ≤ k ∧ k ≤ 6 := by omega
  have hkv : (1 : Int) + (nb : Int) % 6 = (k : Int) := by omega
  clear hk
  go_wp2_with fail
  refine (HN.out _).mono ?_
  rintro e W ⟨g, n, rfl, hn, hrow, hW, hg⟩
  obtain rfl : n = 13 := by omega
  have HR := Lib.hid (RowAt.ofRow hrow)
  have HB2 := Lib.hid (belowOn HB1.out hW)
  have HGg : Hid (w.heap.size ≤ g) := Lib.hid (by have := HB1.out.size; omega)
  clear hn hrow hW hg HN HB1 hkv
  have c3 := HR.out.cell (j := 3) (by decide); have c4 := HR.out.cell (j := 4) (by decide); have cf := HR.out.frozen
  go_wp2_with fail
  have HR2 := Lib.hid ((HR.out.set 3 fr).set 4 fr)
  have HB3 := Lib.hid ((HB2.out.setCell (p := ⟨g, 3, none⟩) HGg.out (.int .u64 fr)).setCell (p := ⟨g, 4, none⟩) HGg.out (.int .u64 fr))
  clear HR HB2 c3 c4 cf
  generalize (W.setCell ⟨g, 3, none⟩ (.int .u64 fr)).setCell ⟨g, 4, none⟩ (.int .u64 fr) = V at *
  refine (HFR.out (some ⟨g, 0, none⟩) _ V (HS.out.below HB3.out) HR2.out.words).mono ?_
  rintro e W3 ⟨H, A, G, rfl, hF, hb, l1, l2, l3⟩
  have hsz : w.heap.size ≤ V.heap.size := HB3.out.size
  have HQ0 := Lib.hid (Q1.first k (belowOn HB3.out hb) hF (Nat.le_trans hsz l1) (Nat.le_trans hsz l3))
  clear hF hb HB3 HR2 HFR l1 l2 l3 hsz HS HGg
  have hmk1 := make_muts k (by omega)
  have hmk2 := make_ints k (by omega)
  go_wp2_with fail
  rw [show W3.heap.size + 1 + 1 = W3.heap.size + 2 from rfl]
  generalize (((W3.alloc (.cells #[.pointer (some ⟨H, 0, none⟩)] 33)).alloc (.cells (madeCells zM (k * 13)) 30)).alloc (.cells #[.slice (some ⟨W3.heap.size + 1, 0, none⟩) k k] 47)) = W4 at *
  generalize W3.heap.size = B at *
  clear hmk1
  go_loopw [12] (fun vi wr => ∃ i : Nat, vi = .int .i64 i ∧ i ≤ k ∧ Hid (Q1 w wr B H A G k i fr)) (fun vi _ => k - (intOf vi).toNat)
  case atStart => exact ⟨0, rfl, by omega, HQ0⟩
  case round =>
    clear HQ0
    obtain ⟨i, rfl, hi, HQ1⟩ := hrel
    by_cases hlt : i < k
    · have a2 : wr.cell? ⟨B + 2, 0, none⟩ = some (.slice (some ⟨B + 1, 0, none⟩) k k) := by simp [World.cell?, HQ1.out.ba]
      obtain ⟨u, hu⟩ : ∃ u, wr.cell? ⟨B + 1, i * 13, none⟩ = some (.int .i64 u) := ⟨_, (HQ1.out.all.cells hlt).1⟩
      have cf := HQ1.out.all.frozen
      have hi0 : (0 : Int) ≤ (i : Int) := by omega
      have hik : (i : Int) < (k : Int) := by omega
      go_wp2_with fail
      go_roundw
      case rel => exact ⟨i + 1, by go_num, by omega, Lib.hid HQ1.out.set⟩
      case measure => simp [intOf]; omega
    obtain rfl : k = i := by omega
    have hsz := HQ1.out.size
    have HQ2 := Lib.hid (HQ1.out.queue HFu.out)
    clear hi hlt HQ1
    go_wp2_with fail
    rw [show B + 3 + 1 + 1 + 1 = B + 6 from rfl, show B + 3 + 1 + 1 = B + 5 from rfl, show B + 3 + 1 = B + 4 from rfl]
    generalize ((((wr.alloc (.cells #[.slice none 0 0] 48)).alloc (.cells (madeCells #[.int .i64 0] k) 3)).alloc (.cells #[.slice (some ⟨B + 4, 0, none⟩) k k] 48)).alloc (.cells #[.int .i64 (-1)] 3)) = W5 at *
    clear hsz hmk2 hmf
    go_loopw [17] (fun vi wr => ∃ j : Nat, vi = .int .i64 j ∧ j ≤ n0 ∧ Hid (∃ v q, QSt w wr B H A G k j v q)) (fun vi _ => n0 - (intOf vi).toNat)
    case atStart => exact ⟨0, rfl, by omega, Lib.hid ⟨_, _, HQ2.out, que0_inv HFu.out hk0.2, fun j => Int.le_refl _⟩⟩
    case round =>
      clear HQ2
      obtain ⟨j, rfl, hj, HQ3⟩ := hrel
      by_cases hlt : j < n0
      · obtain ⟨v, q, hq⟩ := HQ3.out
        have HQ := Lib.hid hq
        clear hq HQ3
        rcases HG.out.2.1.below HQ.out.1.old with h0 | ⟨b, off, rfl, hbl, hcell⟩
        · omega
        have hp := hcell j hlt
        have hj0 : (0 : Int) ≤ (j : Int) := by omega
        have hjn : (j : Int) < (n0 : Int) := by omega
        clear hcell hbl
        have hp6 := HG.out.2.2 j
        generalize pk j = p at hp hp6
        have hmk : p % k < k := Nat.mod_lt _ (by omega)
        have hkz : ((k : Int) == 0) = false := by simp; omega
        go_wp2_with fail
        rw [show (p : Int) % (k : Int) = ((p % k : Nat) : Int) by simp]
        refine (QSt.go HQ.out (by omega) hmk).mono ?_
        rintro e V2 ⟨rfl, v', hq⟩
        have HQ4 := Lib.hid hq
        clear hq HQ hmk hp
        go_wp2_with fail
        go_roundw
        case rel => exact ⟨j + 1, by go_num, by omega, Lib.hid ⟨_, _, HQ4.out⟩⟩
        case measure => simp [intOf]; omega
      obtain rfl : n0 = j := by omega
      have HR3 : Hid (∃ v q, QSt w wr B H A G k (600 + 0 * k) v q ∧ QWait q k 0 (0 * k)) := Lib.hid (by obtain ⟨v, q, h⟩ := HQ3.out; exact ⟨v, q, h.mono (by omega), by rw [Nat.zero_mul]; exact QWait.first h.2.1⟩)
      have hw1 : IntKind.i64.wrap (4 * (k : Int)) = 4 * (k : Int) := IntWalk.i64_in _ (by omega)
      have hw2 : IntKind.i64.wrap (4 * (k : Int) + 4) = 4 * (k : Int) + 4 := IntWalk.i64_in _ (by omega)
      clear hj hlt HQ3
      go_wp2_with fail
      generalize wr = W6 at *
      go_loopw [18] (fun vi wr => ∃ r : Nat, vi = .int .i64 r ∧ r ≤ 4 * k + 4 ∧ Hid (∃ v q, QSt w wr B H A G k (600 + r * k) v q ∧ QWait q k 0 (r * k))) (fun vi _ => 4 * k + 4 - (intOf vi).toNat)
      case atStart => exact ⟨0, rfl, by omega, HR3⟩
      case round =>
        clear HR3
        obtain ⟨r, rfl, hr, HR3⟩ := hrel
        by_cases hlt : r < 4 * k + 4
        · have hrl : (r : Int) < 4 * (k : Int) + 4 := by omega
          have HR4 : Hid (∃ v q, QSt w wr B H A G k (600 + r * k + 0) v q ∧ QWait q k (if 0 = k then 0 else 0) (r * k + 0)) := Lib.hid (by obtain ⟨v, q, h⟩ := HR3.out; exact ⟨v, q, h.1, by rw [ite_self]; exact h.2⟩)
          clear HR3
          have hrk : r * k ≤ 28 * 6 := Nat.mul_le_mul (by omega) (by omega)
          go_wp2_with fail
          generalize wr = W7 at *
          go_loopw [19] (fun vi wr => ∃ i : Nat, vi = .int .i64 i ∧ i ≤ k ∧ Hid (∃ v q, QSt w wr B H A G k (600 + r * k + i) v q ∧ QWait q k (if i = k then 0 else i) (r * k + i))) (fun vi _ => k - (intOf vi).toNat)
          case atStart => exact ⟨0, rfl, by omega, HR4⟩
          case round =>
            clear HR4
            obtain ⟨i, rfl, hi, HR4⟩ := hrel
            by_cases hik : i < k
            · obtain ⟨v, q, hq⟩ := HR4.out
              have HQ := Lib.hid hq
              clear hq HR4
              have hi0 : (0 : Int) ≤ (i : Int) := by omega
              have hil : (i : Int) < (k : Int) := by omega
              go_wp2_with fail
              refine (QSt.go HQ.out.1 (by omega) hik).mono ?_
              rintro e V2 ⟨rfl, v', hq⟩
              have HQ4 : Hid (∃ v q, QSt w V2 B H A G k (600 + r * k + (i + 1)) v q ∧ QWait q k (if i + 1 = k then 0 else i + 1) (r * k + (i + 1))) := Lib.hid ⟨v', _, hq, by have h := HQ.out.2; rw [if_neg (by omega)] at h; exact h.step HQ.out.1.2.1 hik⟩
              clear hq HQ
              go_wp2_with fail
              go_roundw
              case rel => exact ⟨i + 1, by go_num, by omega, HQ4⟩
              case measure => simp [intOf]; omega
            obtain rfl : k = i := by omega
            have HR5 : Hid (∃ v q, QSt w wr B H A G k (600 + (r + 1) * k) v q ∧ QWait q k 0 ((r + 1) * k)) := Lib.hid (by obtain ⟨v, q, h1, h2⟩ := HR4.out; rw [if_pos rfl] at h2; rw [Nat.add_mul, Nat.one_mul, ← Nat.add_assoc]; exact ⟨v, q, h1, h2⟩)
            clear HR4
            go_wp2_with fail
            go_roundw
            case rel => exact ⟨r + 1, by go_num, by omega, HR5⟩
            case measure => simp [intOf]; omega
        obtain rfl : r = 4 * k + 4 := by omega
        have HR6 : Hid (∃ v q, QAt w wr B H A G k v q ∧ ∀ t, t < k → 0 < q.got t) := Lib.hid (by obtain ⟨v, q, h1, h2⟩ := HR3.out; exact ⟨v, q, h1.1, fun t ht => h2.last ht⟩)
        clear HR3 hr
        go_wp2_with fail
        generalize wr = W8 at *
        go_loopw [20] (fun vi wr => ∃ i : Nat, vi = .int .i64 i ∧ i ≤ k ∧ Hid (∃ v q, QAt w wr B H A G k v q ∧ ∀ t, t < k → 0 < q.got t)) (fun vi _ => k - (intOf vi).toNat)
        case atStart => exact ⟨0, rfl, by omega, HR6⟩
        case round =>
          clear HR6
          obtain ⟨i, rfl, hi, HR6⟩ := hrel
          by_cases hik : i < k
          · obtain ⟨v, q, hq, hgt⟩ := HR6.out
            have HQ := Lib.hid hq
            have g0 : wr.cell? ⟨B + 4, i, none⟩ = some (.int .i64 (q.got i)) := hq.got.cell hik
            have s5 := hq.cells.2.2.2.1
            have hz : (q.got i == 0) = false := by have := hgt i hik; simp; omega
            generalize q.got i = gi at g0 hz
            have hi0 : (0 : Int) ≤ (i : Int) := by omega
            have hil : (i : Int) < (k : Int) := by omega
            clear hq hgt HQ
            go_wp2_with fail
            go_roundw
            case rel => exact ⟨i + 1, by go_num, by omega, HR6⟩
            case measure => simp [intOf]; omega
          obtain rfl : k = i := by omega
          go_wp2_with fail
          go_ret
          obtain ⟨v, q, hq, _⟩ := HR6.out
          exact ⟨rfl, hq.old⟩
end Go.Proofs.YtglmecdbafceoaaDoor
