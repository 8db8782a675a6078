/- HandPlays answers true for every configuration, all words and all acts: whatever a hand does on any words, each answer, the access that it notes, and all words then, are as the document says. -/
import Derived.Test.YtoojiaaooccknaaDoorHandFields
import Derived.Test.YtoojiaaooccknaaDoorHandBoth
namespace Go.Proofs.YtoojiaaooccknaaDoor
open Go Go.RowKit
set_option maxRecDepth 100000
attribute [local go_sem ↓] Go.wp_at_zero Go.wp_at_succ

theorem plays_great (a b c d : Int) (hg : grt a b c d) (v0 : Option Addr) (n c0 : Nat) (a2 : Option Addr) (m c2 : Nat) (w : World) (hS : SpansAt w) :
    Calls Tryd.prog 3 #[.agg #[.int .i64 a, .int .i64 b, .int .i64 c, .int .i64 d], .slice v0 n c0, .slice a2 m c2] w fun e w' => e = .returned (.bool true) ∧ Below w.heap.size w w' := by
  have HB0 := Lib.hid (below_new w (.cells #[.int .i64 a, .int .i64 b, .int .i64 c, .int .i64 d] 23))
  have HX0 := Lib.hid (BoxAt.new w a b c d 23)
  have HS := Lib.hid hS
  clear hS
  obtain ⟨x0, x1, x2, x3⟩ := HX0.out
  have HG := Lib.hid (great_yes a b c d hg)
  clear hg
  go_enter Tryd.func3, Tryd.ntmps3
  go_wp2_with fail
  refine (awake_c _ (HS.out.below HB0.out)).mono ?_
  rintro e W1 ⟨rfl, hW⟩
  have HB1 := Lib.hid (belowOn HB0.out hW)
  have HX1 := Lib.hid (HX0.out.below hW)
  clear hW HB0 HX0 x0 x1 x2 x3
  obtain ⟨x0, x1, x2, x3⟩ := HX1.out
  go_wp2_with fail
  refine (HG.out _).mono ?_
  rintro e W2 ⟨rfl, hW⟩
  have HB2 := Lib.hid (belowOn HB1.out hW)
  have HX2 := Lib.hid (HX1.out.below hW)
  clear hW HB1 HX1 x0 x1 x2 x3
  obtain ⟨x0, x1, x2, x3⟩ := HX2.out
  go_wp2_with fail
  go_ret
  exact ⟨rfl, HB2.out⟩
theorem plays_long (a b c d : Int) (hg : ¬ grt a b c d) (v0 : Option Addr) (n c0 : Nat) (a2 : Option Addr) (m c2 : Nat) (hm : 60 < m) (_ : m ≤ 9223372036854775807) (w : World) (hS : SpansAt w) :
    Calls Tryd.prog 3 #[.agg #[.int .i64 a, .int .i64 b, .int .i64 c, .int .i64 d], .slice v0 n c0, .slice a2 m c2] w fun e w' => e = .returned (.bool true) ∧ Below w.heap.size w w' := by
  have HB0 := Lib.hid (below_new w (.cells #[.int .i64 a, .int .i64 b, .int .i64 c, .int .i64 d] 23))
  have HX0 := Lib.hid (BoxAt.new w a b c d 23)
  have HS := Lib.hid hS
  clear hS
  obtain ⟨x0, x1, x2, x3⟩ := HX0.out
  have HG := Lib.hid (great_no a b c d hg)
  clear hg
  go_enter Tryd.func3, Tryd.ntmps3
  go_wp2_with fail
  refine (awake_c _ (HS.out.below HB0.out)).mono ?_
  rintro e W1 ⟨rfl, hW⟩
  have HB1 := Lib.hid (belowOn HB0.out hW)
  have HX1 := Lib.hid (HX0.out.below hW)
  clear hW HB0 HX0 x0 x1 x2 x3
  obtain ⟨x0, x1, x2, x3⟩ := HX1.out
  go_wp2_with fail
  refine (HG.out _).mono ?_
  rintro e W2 ⟨rfl, hW⟩
  have HB2 := Lib.hid (belowOn HB1.out hW)
  have HX2 := Lib.hid (HX1.out.below hW)
  clear hW HB1 HX1 x0 x1 x2 x3
  obtain ⟨x0, x1, x2, x3⟩ := HX2.out
  go_wp2_with fail
  go_ret
  exact ⟨rfl, HB2.out⟩
theorem plays_wrong (a b c d : Int) (hg : ¬ grt a b c d) (hr : ¬ Right a b c d) (v0 : Option Addr) (n c0 : Nat) (a2 : Option Addr) (m c2 : Nat) (hm : m ≤ 60) (w : World) (hS : SpansAt w) :
    Calls Tryd.prog 3 #[.agg #[.int .i64 a, .int .i64 b, .int .i64 c, .int .i64 d], .slice v0 n c0, .slice a2 m c2] w fun e w' => e = .returned (.bool true) ∧ Below w.heap.size w w' := by
  have HB0 := Lib.hid (below_new w (.cells #[.int .i64 a, .int .i64 b, .int .i64 c, .int .i64 d] 23))
  have HX0 := Lib.hid (BoxAt.new w a b c d 23)
  have HS := Lib.hid hS
  clear hS
  obtain ⟨x0, x1, x2, x3⟩ := HX0.out
  have HG := Lib.hid (great_no a b c d hg)
  have HN := Lib.hid (From_wrong a b c d hr v0 n c0)
  have HR := Lib.hid (refRight_wrong a b c d hr)
  clear hg hr
  go_enter Tryd.func3, Tryd.ntmps3
  go_wp2_with fail
  refine (awake_c _ (HS.out.below HB0.out)).mono ?_
  rintro e W1 ⟨rfl, hW⟩
  have HB1 := Lib.hid (belowOn HB0.out hW)
  have HX1 := Lib.hid (HX0.out.below hW)
  clear hW HB0 HX0 x0 x1 x2 x3
  obtain ⟨x0, x1, x2, x3⟩ := HX1.out
  go_wp2_with fail
  refine (HG.out _).mono ?_
  rintro e W2 ⟨rfl, hW⟩
  have HB2 := Lib.hid (belowOn HB1.out hW)
  have HX2 := Lib.hid (HX1.out.below hW)
  clear hW HB1 HX1 x0 x1 x2 x3
  obtain ⟨x0, x1, x2, x3⟩ := HX2.out
  go_wp2_with fail
  refine (HN.out _ (HS.out.below HB2.out)).mono ?_
  rintro e W3 ⟨rfl, hW⟩
  have HB3 := Lib.hid (belowOn HB2.out hW)
  have HX3 := Lib.hid (HX2.out.below hW)
  clear hW HB2 HX2 x0 x1 x2 x3
  obtain ⟨x0, x1, x2, x3⟩ := HX3.out
  go_wp2_with fail
  refine (HR.out _).mono ?_
  rintro e W4 ⟨rfl, hW⟩
  have HB4 := Lib.hid (belowOn HB3.out hW)
  have HX4 := Lib.hid (HX3.out.below hW)
  clear hW HB3 HX3 x0 x1 x2 x3
  obtain ⟨x0, x1, x2, x3⟩ := HX4.out
  go_wp2_with fail
  go_ret
  exact ⟨rfl, HB4.out⟩
theorem plays_len (a b c d : Int) (hg : ¬ grt a b c d) (hr : Right a b c d) (v0 : Option Addr) (n c0 : Nat) (hn : ¬ (n : Int) = 5 + b + d + b * c + 3 * a) (_ : n ≤ 9223372036854775807) (a2 : Option Addr) (m c2 : Nat) (hm : m ≤ 60) (w : World) (hS : SpansAt w) :
    Calls Tryd.prog 3 #[.agg #[.int .i64 a, .int .i64 b, .int .i64 c, .int .i64 d], .slice v0 n c0, .slice a2 m c2] w fun e w' => e = .returned (.bool true) ∧ Below w.heap.size w w' := by
  have HB0 := Lib.hid (below_new w (.cells #[.int .i64 a, .int .i64 b, .int .i64 c, .int .i64 d] 23))
  have HX0 := Lib.hid (BoxAt.new w a b c d 23)
  have HS := Lib.hid hS
  clear hS
  obtain ⟨x0, x1, x2, x3⟩ := HX0.out
  have HG := Lib.hid (great_no a b c d hg)
  have HN := Lib.hid (From_len a b c d hr v0 n c0 hn)
  have HR := Lib.hid (refRight_right a b c d hr)
  have hw := refWords_right a b c d hr
  rw [show 4 + b + (1 + d + b * c) + a + a + a = 5 + b + d + b * c + 3 * a by omega] at hw
  have hq2 : ((n : Int) != 5 + b + d + b * c + 3 * a) = true := by simpa using hn
  generalize 5 + b + d + b * c + 3 * a = z at hw hq2
  have HW := Lib.hid hw
  clear hg hr hw hn
  go_enter Tryd.func3, Tryd.ntmps3
  go_wp2_with fail
  refine (awake_c _ (HS.out.below HB0.out)).mono ?_
  rintro e W1 ⟨rfl, hW⟩
  have HB1 := Lib.hid (belowOn HB0.out hW)
  have HX1 := Lib.hid (HX0.out.below hW)
  clear hW HB0 HX0 x0 x1 x2 x3
  obtain ⟨x0, x1, x2, x3⟩ := HX1.out
  go_wp2_with fail
  refine (HG.out _).mono ?_
  rintro e W2 ⟨rfl, hW⟩
  have HB2 := Lib.hid (belowOn HB1.out hW)
  have HX2 := Lib.hid (HX1.out.below hW)
  clear hW HB1 HX1 x0 x1 x2 x3
  obtain ⟨x0, x1, x2, x3⟩ := HX2.out
  go_wp2_with fail
  refine (HN.out _ (HS.out.below HB2.out)).mono ?_
  rintro e W3 ⟨rfl, hW⟩
  have HB3 := Lib.hid (belowOn HB2.out hW)
  have HX3 := Lib.hid (HX2.out.below hW)
  clear hW HB2 HX2 x0 x1 x2 x3
  obtain ⟨x0, x1, x2, x3⟩ := HX3.out
  go_wp2_with fail
  refine (HR.out _).mono ?_
  rintro e W4 ⟨rfl, hW⟩
  have HB4 := Lib.hid (belowOn HB3.out hW)
  have HX4 := Lib.hid (HX3.out.below hW)
  clear hW HB3 HX3 x0 x1 x2 x3
  obtain ⟨x0, x1, x2, x3⟩ := HX4.out
  go_wp2_with fail
  refine (HW.out _).mono ?_
  rintro e W5 ⟨rfl, hW⟩
  have HB5 := Lib.hid (belowOn HB4.out hW)
  have HX5 := Lib.hid (HX4.out.below hW)
  clear hW HB4 HX4 x0 x1 x2 x3
  obtain ⟨x0, x1, x2, x3⟩ := HX5.out
  go_wp2_with fail
  go_ret
  exact ⟨rfl, HB5.out⟩
set_option maxHeartbeats 25600000 in
theorem plays_right (a b c d : Int) (hg : ¬ grt a b c d) (hr : Right a b c d) (v0 : Option Addr) (n c0 : Nat) (f : Nat → Int) (hn : (n : Int) = 5 + b + d + b * c + 3 * a) (a2 : Option Addr) (m c2 : Nat) (g : Nat → ActN) (hm : m ≤ 60) (w : World) (hS : SpansAt w) (hG : Given w v0 n c0 f) (hG2 : GivenActs w a2 m g) :
    Calls Tryd.prog 3 #[.agg #[.int .i64 a, .int .i64 b, .int .i64 c, .int .i64 d], .slice v0 n c0, .slice a2 m c2] w fun e w' => e = .returned (.bool true) ∧ Below w.heap.size w w' := by
  have HB0 := Lib.hid (below_new w (.cells #[.int .i64 a, .int .i64 b, .int .i64 c, .int .i64 d] 23))
  have HX0 := Lib.hid (BoxAt.new w a b c d 23)
  have HS := Lib.hid hS
  clear hS
  obtain ⟨x0, x1, x2, x3⟩ := HX0.out
  have HG := Lib.hid (great_no a b c d hg)
  have HR := Lib.hid (refRight_right a b c d hr)
  have hw := refWords_right a b c d hr
  rw [show 4 + b + (1 + d + b * c) + a + a + a = 5 + b + d + b * c + 3 * a by omega, ← hn] at hw
  have HW := Lib.hid hw
  have hn20 : n ≤ 20000 := by have := hr.prod; unfold Right at hr; omega
  have HFR := Lib.hid (From_right a b c d hr v0 n c0 f hn)
  have HG2 := Lib.hid hG2
  have HL := Lib.hid hG.2.1
  have HU := Lib.hid hG.2.2.1
  have HZ := Lib.hid hG.2.2.2
  clear hg hr hw hn hG hG2
  go_enter Tryd.func3, Tryd.ntmps3
  go_wp2_with fail
  refine (awake_c _ (HS.out.below HB0.out)).mono ?_
  rintro e W1 ⟨rfl, hW⟩
  have HB1 := Lib.hid (belowOn HB0.out hW)
  have HX1 := Lib.hid (HX0.out.below hW)
  clear hW HB0 HX0 x0 x1 x2 x3
  obtain ⟨x0, x1, x2, x3⟩ := HX1.out
  go_wp2_with fail
  refine (HG.out _).mono ?_
  rintro e W2 ⟨rfl, hW⟩
  have HB2 := Lib.hid (belowOn HB1.out hW)
  have HX2 := Lib.hid (HX1.out.below hW)
  clear hW HB1 HX1 x0 x1 x2 x3
  obtain ⟨x0, x1, x2, x3⟩ := HX2.out
  go_wp2_with fail
  refine (HFR.out _ (HS.out.below HB2.out) (HL.out.below HB2.out)).mono ?_
  rintro e W3 ⟨H, A, G, rfl, hF, hW, l1, l2, l3⟩
  have hs2 : w.heap.size ≤ W2.heap.size := HB2.out.size
  have HF3 := Lib.hid hF
  have HB3 := Lib.hid (belowOn HB2.out hW)
  have HX3 := Lib.hid (HX2.out.below hW)
  clear hW hF HB2 HX2 x0 x1 x2 x3 HFR
  obtain ⟨x0, x1, x2, x3⟩ := HX3.out
  go_wp2_with fail
  refine (HR.out _).mono ?_
  rintro e W4 ⟨rfl, hW⟩
  have HF4 := Lib.hid (HF3.out.below hW)
  have HB4 := Lib.hid (belowOn HB3.out hW)
  have HX4 := Lib.hid (HX3.out.below hW)
  clear hW HF3 HB3 HX3 x0 x1 x2 x3 HR
  obtain ⟨x0, x1, x2, x3⟩ := HX4.out
  go_wp2_with fail
  refine (HW.out _).mono ?_
  rintro e W5 ⟨rfl, hW⟩
  have HF5 := Lib.hid (HF4.out.below hW)
  have HB5 := Lib.hid (belowOn HB4.out hW)
  have HX5 := Lib.hid (HX4.out.below hW)
  clear hW HF4 HB4 HX4 x0 x1 x2 x3 HW
  obtain ⟨x0, x1, x2, x3⟩ := HX5.out
  obtain ⟨h0, _, h5, h6, h7, h8, h9, _⟩ := HF5.out.cells
  go_wp2_with fail
  clear h0 h5 h6 h7 h8 h9
  rw [show W5.cell? = W5.drew.cell? from rfl] at x0 x1 x2 x3
  refine wp_region_held_drew (S := (fun w' => w'.cell? ⟨w.heap.size, 0, none⟩ = some (.int .i64 a) ∧ w'.cell? ⟨w.heap.size, 1, none⟩ = some (.int .i64 b) ∧ w'.cell? ⟨w.heap.size, 2, none⟩ = some (.int .i64 c) ∧ w'.cell? ⟨w.heap.size, 3, none⟩ = some (.int .i64 d))) (by kernel_rfl) ?_ (fun hHeld => ?_)
  · exact ⟨x0, x1, x2, x3⟩
  refine wpAnyH_take (i := 0) (oi := { dst := some 68, op := Op.load 23 (Operand.tmp 3), type := 23, pos := "law.go:50", after := #[], guard := none }) (v := ?vc0) rfl (by kernel_rfl) (by kernel_rfl) (by kernel_rfl) (fun _ _ _ h => h) (Or.inl ⟨by rfl, ?hyc0⟩) hHeld ?_
  case hyc0 => (intro w hSw; (try dsimp only at hSw); go_simp; (try with_reducible rfl))
  try simp only [Act.put, List.setIfInBounds_toArray, List.set_cons_zero, List.set_cons_succ]
  refine wpAnyH_take (i := 1) (oi := { dst := some 69, op := Op.move (Operand.tmp 1), type := 24, pos := "law.go:50", after := #[], guard := none }) (v := ?vc1) rfl (by kernel_rfl) (by kernel_rfl) (by kernel_rfl) (fun _ _ _ h => h) (Or.inl ⟨by rfl, ?hyc1⟩) hHeld ?_
  case hyc1 => (intro w hSw; (try dsimp only at hSw); go_simp; (try with_reducible rfl))
  try simp only [Act.put, List.setIfInBounds_toArray, List.set_cons_zero, List.set_cons_succ]
  refine wpAnyH_ready (rs := [2]) (by kernel_rfl) (by simp) ?_
  refine AllReadyH.cons (o := { dst := some 70, op := Op.call { callee := Callee.value (Operand.func 11), args := #[Operand.tmp 69], argTypes := #[24] }, type := 24, pos := "law.go:50", after := #[{ on := 1, ground := Ground.data }], guard := none }) rfl (fun K hK => ?_) AllReadyH.nil
  go_simp
  refine (Copy_c v0 n c0 f hn20 _ (HL.out.below HB5.out.drew) HZ.out).mono ?_
  rintro e V ⟨va, cap, rfl, hV, hM, hap⟩
  have HX6 := Lib.hid ((show BoxAt W5.drew w.heap.size a b c d from HX5.out).below hV)
  have hl0 : H < W5.heap.size := HF5.out.lt
  have hl1 : A < W5.heap.size := HF5.out.ar.lt
  have hl2 : G < W5.heap.size := HF5.out.ar.row.lt
  have hl3 : W5.heap.size ≤ V.heap.size := hV.size
  have HB : Hid (Both w (V.alloc (.cells #[.int .i64 a, .int .i64 b, .int .i64 c, .int .i64 d, .slice va n cap, .int .i64 0, .int .i64 0, .int .u64 0, .int .u64 0, .int .u64 0] 45)) H A G V.heap.size va n cap W5.drew.heap.size a b c d f 0 0 0 0 0 f 0 0 0 0 0) := Lib.hid ⟨below_on (belowOn HB5.out.drew hV) _, (HF5.out.drew.below hV).below (below_new _ _), ⟨fun R e => by have := (hap R e).2; omega, newBlock _ _, hM.below (below_new _ _)⟩, by omega, by omega, by have := HB5.out.size; omega, fun R e => by have h1 : W5.heap.size ≤ R := (hap R e).1; have h2 := (hap R e).2; have h3 := HB5.out.size; refine ⟨by omega, by simp; omega, by omega, by omega, by omega⟩, by omega, by omega, by omega⟩
  clear hV hM hap HB5 HX5 HF5 hHeld x0 x1 x2 x3 hl0 hl1 hl2 hl3
  refine hK.out _ _ ?_ (fun hHeld => ?_)
  · exact HX6.out
  clear hK K
  try simp only [Act.put, List.setIfInBounds_toArray, List.set_cons_zero, List.set_cons_succ]
  refine wpAnyH_take (i := 3) (oi := { dst := some 71, op := Op.build 45 #[(0, Operand.tmp 68), (1, Operand.tmp 70)], type := 45, pos := "law.go:50", after := #[{ on := 0, ground := Ground.data }, { on := 2, ground := Ground.data }], guard := none }) (v := ?vc3) rfl (by kernel_rfl) (by kernel_rfl) (by kernel_rfl) (fun _ _ _ h => h) (Or.inl ⟨by rfl, ?hyc3⟩) hHeld ?_
  case hyc3 => (intro w hSw; (try dsimp only at hSw); go_simp; (try with_reducible rfl))
  try simp only [Act.put, List.setIfInBounds_toArray, List.set_cons_zero, List.set_cons_succ]
  refine wpAnyH_ready (rs := [4]) (by kernel_rfl) (by simp) ?_
  refine AllReadyH.cons (o := { dst := some 72, op := Op.box 45 (Operand.tmp 71), type := 42, pos := "law.go:50", after := #[{ on := 3, ground := Ground.data }], guard := none }) rfl (fun K hK => ?_) AllReadyH.nil
  go_simp
  have HX7 := HX6.out.below (below_new V (.cells #[.int .i64 a, .int .i64 b, .int .i64 c, .int .i64 d, .slice va n cap, .int .i64 0, .int .i64 0, .int .u64 0, .int .u64 0, .int .u64 0] 45))
  refine hK.out _ _ ?_ (fun hHeld => ?_)
  · exact HX7
  clear hK K
  try simp only [Act.put, List.setIfInBounds_toArray, List.set_cons_zero, List.set_cons_succ]
  refine wpAnyH_take (i := 5) (oi := { dst := some 9, op := Op.assign (Operand.tmp 72), type := 42, pos := "law.go:50", after := #[{ on := 4, ground := Ground.data }, { on := 2, ground := Ground.chain }, { on := 0, ground := Ground.phase }, { on := 1, ground := Ground.phase }, { on := 2, ground := Ground.phase }, { on := 3, ground := Ground.phase }, { on := 4, ground := Ground.phase }], guard := none }) (v := ?vc5) rfl (by kernel_rfl) (by kernel_rfl) (by kernel_rfl) (fun _ _ _ h => h) (Or.inl ⟨by rfl, ?hyc5⟩) hHeld ?_
  case hyc5 => (intro w hSw; (try dsimp only at hSw); go_simp; (try with_reducible rfl))
  try simp only [Act.put, List.setIfInBounds_toArray, List.set_cons_zero, List.set_cons_succ]
  refine wpAnyH_done (by kernel_rfl) ?_ _
  clear hHeld HX6 HL HZ HS HG HX7
  generalize V.heap.size = X at *
  generalize W5.drew.heap.size = N at *
  go_wp2_with fail
  go_loopw [10] (fun vi wr => ∃ k : Nat, vi = .int .i64 k ∧ k ≤ m ∧ Hid (∃ f ka ia xa ya oa, Both w wr H A G X va n cap N a b c d f ka ia xa ya oa f ka ia xa ya oa ∧ ∀ j, U64 (f j))) (fun vi _ => m - (intOf vi).toNat)
  case atStart => exact ⟨0, rfl, Nat.zero_le _, Lib.hid ⟨f, 0, 0, 0, 0, 0, HB.out, HU.out⟩⟩
  case round =>
    clear HB HU f
    obtain ⟨k, rfl, hk, HI⟩ := hrel
    obtain ⟨f, ka, ia, xa, ya, oa, hB, hu⟩ := HI.out
    by_cases hlt : k < m
    · obtain ⟨b2, off, rfl, hb2, hc⟩ := (HG2.out.2.1.below hB.old).at' hlt
      obtain ⟨hx, hy⟩ := HG2.out.2.2 k hlt
      generalize g k = q at hc hx hy
      obtain ⟨K, I, X1, Y1⟩ := q
      have HN := Lib.hid (hB.apart (B := wr.heap.size) (Nat.le_refl _))
      have HB0 := Lib.hid (hB.below (below_new wr (.cells #[.int .i64 K, .int .i64 I, .int .u64 X1, .int .u64 Y1] 47)))
      have HA0 := Lib.hid (ActAt.new wr K I X1 Y1)
      unfold ActAt at hc
      dsimp only at hc hx hy
      obtain ⟨q0, q1, q2, q3⟩ := hc
      obtain ⟨a0, a1, a2', a3⟩ := HA0.out
      clear hB HI HG2
      by_cases e1 : K = 1
      · subst e1
        obtain ⟨f', k', i', x', y', o', v, hu', hh, hrr⟩ := both_load (w := w) (H := H) (A := A) (G := G) (X := X) (va := va) (n := n) (cap := cap) (N := N) (a := a) (b := b) (c := c) (d := d) hu ka ia xa ya oa I
        have HU := Lib.hid hu'; have HH := Lib.hid hh; have HR := Lib.hid hrr
        clear hu' hh hrr hu hx hy
        go_wp2_with fail
        have HB1 := Lib.hid HB0.out.drew
        have HA1 : Hid (ActAt (wr.alloc (.cells #[.int .i64 1, .int .i64 I, .int .u64 X1, .int .u64 Y1] 47)).drew wr.heap.size 0 ⟨1, I, X1, Y1⟩) := Lib.hid (show ActAt (wr.alloc (.cells #[.int .i64 1, .int .i64 I, .int .u64 X1, .int .u64 Y1] 47)) wr.heap.size 0 ⟨1, I, X1, Y1⟩ from HA0.out)
        clear HB0 HA0 a0 a1 a2' a3
        obtain ⟨a0, a1, a2', a3⟩ := HA1.out
        refine wp_region_held_drew (S := (fun w' => w'.cell? ⟨wr.heap.size, 1, none⟩ = some (.int .i64 I))) (by kernel_rfl) ?_ (fun hHeld => ?_)
        · exact a1
        refine wpAnyH_take (i := 0) (oi := { dst := some 93, op := Op.move (Operand.tmp 7), type := 28, pos := "law.go:56", after := #[], guard := none }) (v := ?vla0) rfl (by kernel_rfl) (by kernel_rfl) (by kernel_rfl) (fun _ _ _ h => h) (Or.inl ⟨by rfl, ?hyla0⟩) hHeld ?_
        case hyla0 => (intro w hSw; (try dsimp only at hSw); go_simp; (try with_reducible rfl))
        try simp only [Act.put, List.setIfInBounds_toArray, List.set_cons_zero, List.set_cons_succ]
        refine wpAnyH_take (i := 1) (oi := { dst := some 94, op := Op.fieldAddr 47 (Operand.tmp 11) 1, type := 0, pos := "law.go:56", after := #[], guard := none }) (v := ?vla1) rfl (by kernel_rfl) (by kernel_rfl) (by kernel_rfl) (fun _ _ _ h => h) (Or.inl ⟨by rfl, ?hyla1⟩) hHeld ?_
        case hyla1 => (intro w hSw; (try dsimp only at hSw); go_simp; (try with_reducible rfl))
        try simp only [Act.put, List.setIfInBounds_toArray, List.set_cons_zero, List.set_cons_succ]
        refine wpAnyH_take (i := 2) (oi := { dst := some 95, op := Op.load 3 (Operand.tmp 94), type := 3, pos := "law.go:56", after := #[{ on := 1, ground := Ground.data }], guard := none }) (v := ?vla2) rfl (by kernel_rfl) (by kernel_rfl) (by kernel_rfl) (fun _ _ _ h => h) (Or.inl ⟨by rfl, ?hyla2⟩) hHeld ?_
        case hyla2 => (intro w hSw; (try dsimp only at hSw); go_simp; (try with_reducible rfl))
        try simp only [Act.put, List.setIfInBounds_toArray, List.set_cons_zero, List.set_cons_succ]
        refine wpAnyH_take (i := 4) (oi := { dst := some 97, op := Op.move (Operand.tmp 9), type := 42, pos := "law.go:56", after := #[], guard := none }) (v := ?vla4) rfl (by kernel_rfl) (by kernel_rfl) (by kernel_rfl) (fun _ _ _ h => h) (Or.inl ⟨by rfl, ?hyla4⟩) hHeld ?_
        case hyla4 => (intro w hSw; (try dsimp only at hSw); go_simp; (try with_reducible rfl))
        try simp only [Act.put, List.setIfInBounds_toArray, List.set_cons_zero, List.set_cons_succ]
        refine wpAnyH_take (i := 5) (oi := { dst := some 98, op := Op.fieldAddr 47 (Operand.tmp 11) 1, type := 0, pos := "law.go:56", after := #[], guard := none }) (v := ?vla5) rfl (by kernel_rfl) (by kernel_rfl) (by kernel_rfl) (fun _ _ _ h => h) (Or.inl ⟨by rfl, ?hyla5⟩) hHeld ?_
        case hyla5 => (intro w hSw; (try dsimp only at hSw); go_simp; (try with_reducible rfl))
        try simp only [Act.put, List.setIfInBounds_toArray, List.set_cons_zero, List.set_cons_succ]
        refine wpAnyH_take (i := 6) (oi := { dst := some 99, op := Op.load 3 (Operand.tmp 98), type := 3, pos := "law.go:56", after := #[{ on := 5, ground := Ground.data }], guard := none }) (v := ?vla6) rfl (by kernel_rfl) (by kernel_rfl) (by kernel_rfl) (fun _ _ _ h => h) (Or.inl ⟨by rfl, ?hyla6⟩) hHeld ?_
        case hyla6 => (intro w hSw; (try dsimp only at hSw); go_simp; (try with_reducible rfl))
        try simp only [Act.put, List.setIfInBounds_toArray, List.set_cons_zero, List.set_cons_succ]
        refine wpAnyH_ready (rs := [3]) (by kernel_rfl) (by simp) ?_
        refine AllReadyH.cons (o := { dst := some 96, op := Op.call { callee := Callee.value (Operand.func 12), args := #[Operand.tmp 93, Operand.tmp 95], argTypes := #[28, 3] }, type := 37, pos := "law.go:56", after := #[{ on := 0, ground := Ground.data }, { on := 2, ground := Ground.data }], guard := none }) rfl (fun K hK => ?_) AllReadyH.nil
        go_simp
        refine (HH.out _ HB1.out).mono ?_
        rintro e V2 ⟨rfl, hb, hs⟩
        have HB2 := Lib.hid hb
        have HA2 := Lib.hid (HA1.out.other (hs.block _ (lt_of_cell HA1.out.1) HN.out))
        clear hb hs hHeld HB1 HA1 HH a0 a1 a2' a3
        obtain ⟨a0, a1, a2', a3⟩ := HA2.out
        refine hK.out _ _ ?_ (fun hHeld => ?_)
        · exact a1
        clear hK K
        try simp only [Act.put, List.setIfInBounds_toArray, List.set_cons_zero, List.set_cons_succ]
        refine wpAnyH_ready (rs := [7]) (by kernel_rfl) (by simp) ?_
        refine AllReadyH.cons (o := { dst := some 100, op := Op.call { callee := Callee.value (Operand.func 13), args := #[Operand.tmp 97, Operand.tmp 99], argTypes := #[42, 3] }, type := 37, pos := "law.go:56", after := #[{ on := 4, ground := Ground.data }, { on := 6, ground := Ground.data }, { on := 3, ground := Ground.chain }], guard := none }) rfl (fun K hK => ?_) AllReadyH.nil
        go_simp
        refine (HR.out _ HB2.out).mono ?_
        rintro e V3 ⟨rfl, hb, hs⟩
        have HB3 := Lib.hid hb
        have HA3 := Lib.hid (HA2.out.other (hs.block _ (lt_of_cell HA2.out.1) HN.out))
        clear hb hs hHeld HB2 HA2 HR a0 a1 a2' a3
        obtain ⟨a0, a1, a2', a3⟩ := HA3.out
        refine hK.out _ _ ?_ (fun hHeld => ?_)
        · exact a1
        clear hK K
        try simp only [Act.put, List.setIfInBounds_toArray, List.set_cons_zero, List.set_cons_succ]
        refine wpAnyH_take (i := 8) (oi := { dst := some 101, op := Op.binOp BinOp.eql 37 (Operand.tmp 96) (Operand.tmp 100) 37, type := 4, pos := "law.go:56", after := #[{ on := 3, ground := Ground.data }, { on := 7, ground := Ground.data }], guard := none }) (v := ?vla8) rfl (by kernel_rfl) (by kernel_rfl) (by kernel_rfl) (fun _ _ _ h => h) (Or.inl ⟨by rfl, ?hyla8⟩) hHeld ?_
        case hyla8 => (intro w hSw; (try dsimp only at hSw); go_simp; (try with_reducible rfl))
        try simp only [Act.put, List.setIfInBounds_toArray, List.set_cons_zero, List.set_cons_succ]
        refine wpAnyH_take (i := 9) (oi := { dst := some 12, op := Op.assign (Operand.tmp 101), type := 4, pos := "law.go:56", after := #[{ on := 8, ground := Ground.data }, { on := 7, ground := Ground.chain }, { on := 0, ground := Ground.phase }, { on := 1, ground := Ground.phase }, { on := 2, ground := Ground.phase }, { on := 3, ground := Ground.phase }, { on := 4, ground := Ground.phase }, { on := 5, ground := Ground.phase }, { on := 6, ground := Ground.phase }, { on := 7, ground := Ground.phase }, { on := 8, ground := Ground.phase }], guard := none }) (v := ?vla9) rfl (by kernel_rfl) (by kernel_rfl) (by kernel_rfl) (fun _ _ _ h => h) (Or.inl ⟨by rfl, ?hyla9⟩) hHeld ?_
        case hyla9 => (intro w hSw; (try dsimp only at hSw); go_simp; (try with_reducible rfl))
        try simp only [Act.put, List.setIfInBounds_toArray, List.set_cons_zero, List.set_cons_succ]
        refine wpAnyH_done (by kernel_rfl) ?_ _
        clear hHeld a0 a1 a2' a3
        go_wp2_with fail
        have HBd := Lib.hid HB3.out.drew
        clear HB3
        obtain ⟨h0, _, h5, h6, h7, h8, h9, _⟩ := HBd.out.hand.cells
        obtain ⟨r4, _, r5, r6, r7, r8, r9, _⟩ := HBd.out.ref.cells
        refine wp_region_held_drew (S := (fun w' => w'.cell? ⟨H, 0, none⟩ = some (.pointer (some ⟨A, 0, none⟩)) ∧ w'.cell? ⟨H, 5, none⟩ = some (.int .i64 k') ∧ w'.cell? ⟨H, 6, none⟩ = some (.int .i64 i') ∧ w'.cell? ⟨H, 7, none⟩ = some (.int .u64 x') ∧ w'.cell? ⟨H, 8, none⟩ = some (.int .u64 y') ∧ w'.cell? ⟨H, 9, none⟩ = some (.int .u64 o') ∧ w'.cell? ⟨X, 4, none⟩ = some (.slice va n cap) ∧ w'.cell? ⟨X, 5, none⟩ = some (.int .i64 k') ∧ w'.cell? ⟨X, 6, none⟩ = some (.int .i64 i') ∧ w'.cell? ⟨X, 7, none⟩ = some (.int .u64 x') ∧ w'.cell? ⟨X, 8, none⟩ = some (.int .u64 y') ∧ w'.cell? ⟨X, 9, none⟩ = some (.int .u64 o'))) (by kernel_rfl) ?_ (fun hHeld => ?_)
        · exact ⟨h0, h5, h6, h7, h8, h9, r4, r5, r6, r7, r8, r9⟩
        refine wpAnyH_take (i := 0) (oi := { dst := some 150, op := Op.move (Operand.tmp 12), type := 4, pos := "law.go:68", after := #[], guard := none }) (v := ?vlb0) rfl (by kernel_rfl) (by kernel_rfl) (by kernel_rfl) (fun _ _ _ h => h) (Or.inl ⟨by rfl, ?hylb0⟩) hHeld ?_
        case hylb0 => (intro w hSw; (try dsimp only at hSw); go_simp; (try with_reducible rfl))
        try simp only [Act.put, List.setIfInBounds_toArray, List.set_cons_zero, List.set_cons_succ]
        refine wpAnyH_take (i := 1) (oi := { dst := some 151, op := Op.unOp UnOp.not 4 (Operand.tmp 150), type := 4, pos := "law.go:68", after := #[{ on := 0, ground := Ground.data }], guard := none }) (v := ?vlb1) rfl (by kernel_rfl) (by kernel_rfl) (by kernel_rfl) (fun _ _ _ h => h) (Or.inl ⟨by rfl, ?hylb1⟩) hHeld ?_
        case hylb1 => (intro w hSw; (try dsimp only at hSw); go_simp; (try with_reducible rfl))
        try simp only [Act.put, List.setIfInBounds_toArray, List.set_cons_zero, List.set_cons_succ]
        refine wpAnyH_take (i := 2) (oi := { dst := some 152, op := Op.move (Operand.tmp 151), type := 4, pos := "law.go:68", after := #[{ on := 1, ground := Ground.data }], guard := none }) (v := ?vlb2) rfl (by kernel_rfl) (by kernel_rfl) (by kernel_rfl) (fun _ _ _ h => h) (Or.inl ⟨by rfl, ?hylb2⟩) hHeld ?_
        case hylb2 => (intro w hSw; (try dsimp only at hSw); go_simp; (try with_reducible rfl))
        try simp only [Act.put, List.setIfInBounds_toArray, List.set_cons_zero, List.set_cons_succ]
        refine wpAnyH_take (i := 3) (oi := { dst := some 153, op := Op.move (Operand.tmp 7), type := 28, pos := "law.go:68", after := #[{ on := 2, ground := Ground.guard }], guard := some (2, false) }) (v := ?vlb3) rfl (by kernel_rfl) (by kernel_rfl) (by kernel_rfl) (fun _ _ _ h => h) (Or.inl ⟨by rfl, ?hylb3⟩) hHeld ?_
        case hylb3 => (intro w hSw; (try dsimp only at hSw); go_simp; (try with_reducible rfl))
        try simp only [Act.put, List.setIfInBounds_toArray, List.set_cons_zero, List.set_cons_succ]
        refine wpAnyH_take (i := 4) (oi := { dst := some 154, op := Op.nilCheck (Operand.tmp 153), type := 0, pos := "law.go:68", after := #[{ on := 3, ground := Ground.data }, { on := 2, ground := Ground.guard }], guard := some (2, false) }) (v := ?vlb4) rfl (by kernel_rfl) (by kernel_rfl) (by kernel_rfl) (fun _ _ _ h => h) (Or.inl ⟨by rfl, ?hylb4⟩) hHeld ?_
        case hylb4 => (intro w hSw; (try dsimp only at hSw); go_simp; (try with_reducible rfl))
        try simp only [Act.put, List.setIfInBounds_toArray, List.set_cons_zero, List.set_cons_succ]
        refine wpAnyH_take (i := 5) (oi := { dst := some 155, op := Op.fieldAddr 41 (Operand.tmp 154) 2, type := 0, pos := "law.go:68", after := #[{ on := 4, ground := Ground.data }, { on := 2, ground := Ground.guard }], guard := some (2, false) }) (v := ?vlb5) rfl (by kernel_rfl) (by kernel_rfl) (by kernel_rfl) (fun _ _ _ h => h) (Or.inl ⟨by rfl, ?hylb5⟩) hHeld ?_
        case hylb5 => (intro w hSw; (try dsimp only at hSw); go_simp; (try with_reducible rfl))
        try simp only [Act.put, List.setIfInBounds_toArray, List.set_cons_zero, List.set_cons_succ]
        refine wpAnyH_take (i := 6) (oi := { dst := some 156, op := Op.load 39 (Operand.tmp 155), type := 39, pos := "law.go:68", after := #[{ on := 5, ground := Ground.data }, { on := 2, ground := Ground.guard }], guard := some (2, false) }) (v := ?vlb6) rfl (by kernel_rfl) (by kernel_rfl) (by kernel_rfl) (fun _ _ _ h => h) (Or.inl ⟨by rfl, ?hylb6⟩) hHeld ?_
        case hylb6 => (intro w hSw; (try dsimp only at hSw); go_simp; (try with_reducible rfl))
        try simp only [Act.put, List.setIfInBounds_toArray, List.set_cons_zero, List.set_cons_succ]
        refine wpAnyH_take (i := 7) (oi := { dst := some 157, op := Op.move (Operand.tmp 9), type := 42, pos := "law.go:68", after := #[{ on := 2, ground := Ground.guard }], guard := some (2, false) }) (v := ?vlb7) rfl (by kernel_rfl) (by kernel_rfl) (by kernel_rfl) (fun _ _ _ h => h) (Or.inl ⟨by rfl, ?hylb7⟩) hHeld ?_
        case hylb7 => (intro w hSw; (try dsimp only at hSw); go_simp; (try with_reducible rfl))
        try simp only [Act.put, List.setIfInBounds_toArray, List.set_cons_zero, List.set_cons_succ]
        refine wpAnyH_take (i := 8) (oi := { dst := some 158, op := Op.nilCheck (Operand.tmp 157), type := 0, pos := "law.go:68", after := #[{ on := 7, ground := Ground.data }, { on := 2, ground := Ground.guard }], guard := some (2, false) }) (v := ?vlb8) rfl (by kernel_rfl) (by kernel_rfl) (by kernel_rfl) (fun _ _ _ h => h) (Or.inl ⟨by rfl, ?hylb8⟩) hHeld ?_
        case hylb8 => (intro w hSw; (try dsimp only at hSw); go_simp; (try with_reducible rfl))
        try simp only [Act.put, List.setIfInBounds_toArray, List.set_cons_zero, List.set_cons_succ]
        refine wpAnyH_take (i := 9) (oi := { dst := some 159, op := Op.fieldAddr 45 (Operand.tmp 158) 2, type := 0, pos := "law.go:68", after := #[{ on := 8, ground := Ground.data }, { on := 2, ground := Ground.guard }], guard := some (2, false) }) (v := ?vlb9) rfl (by kernel_rfl) (by kernel_rfl) (by kernel_rfl) (fun _ _ _ h => h) (Or.inl ⟨by rfl, ?hylb9⟩) hHeld ?_
        case hylb9 => (intro w hSw; (try dsimp only at hSw); go_simp; (try with_reducible rfl))
        try simp only [Act.put, List.setIfInBounds_toArray, List.set_cons_zero, List.set_cons_succ]
        refine wpAnyH_take (i := 10) (oi := { dst := some 160, op := Op.load 39 (Operand.tmp 159), type := 39, pos := "law.go:68", after := #[{ on := 9, ground := Ground.data }, { on := 2, ground := Ground.guard }], guard := some (2, false) }) (v := ?vlb10) rfl (by kernel_rfl) (by kernel_rfl) (by kernel_rfl) (fun _ _ _ h => h) (Or.inl ⟨by rfl, ?hylb10⟩) hHeld ?_
        case hylb10 => (intro w hSw; (try dsimp only at hSw); go_simp; (try with_reducible rfl))
        try simp only [Act.put, List.setIfInBounds_toArray, List.set_cons_zero, List.set_cons_succ]
        refine wpAnyH_take (i := 11) (oi := { dst := some 161, op := Op.binOp BinOp.neq 39 (Operand.tmp 156) (Operand.tmp 160) 39, type := 4, pos := "law.go:68", after := #[{ on := 6, ground := Ground.data }, { on := 10, ground := Ground.data }, { on := 2, ground := Ground.guard }], guard := some (2, false) }) (v := ?vlb11) rfl (by kernel_rfl) (by kernel_rfl) (by kernel_rfl) (fun _ _ _ h => h) (Or.inl ⟨by rfl, ?hylb11⟩) hHeld ?_
        case hylb11 => (intro w hSw; (try dsimp only at hSw); go_simp; (try with_reducible rfl))
        try simp only [Act.put, List.setIfInBounds_toArray, List.set_cons_zero, List.set_cons_succ]
        refine wpAnyH_take (i := 12) (oi := { dst := some 162, op := Op.pick (Operand.tmp 152) (Operand.const (Value.bool true)) (Operand.tmp 161), type := 4, pos := "law.go:68", after := #[{ on := 2, ground := Ground.data }, { on := 11, ground := Ground.data }], guard := none }) (v := ?vlb12) rfl (by kernel_rfl) (by kernel_rfl) (by kernel_rfl) (fun _ _ _ h => h) (Or.inl ⟨by rfl, ?hylb12⟩) hHeld ?_
        case hylb12 => (intro w hSw; (try dsimp only at hSw); go_simp; (try with_reducible rfl))
        try simp only [Act.put, List.setIfInBounds_toArray, List.set_cons_zero, List.set_cons_succ]
        refine wpAnyH_take (i := 13) (oi := { dst := some 163, op := Op.move (Operand.tmp 162), type := 4, pos := "law.go:68", after := #[{ on := 12, ground := Ground.data }, { on := 2, ground := Ground.chain }], guard := none }) (v := ?vlb13) rfl (by kernel_rfl) (by kernel_rfl) (by kernel_rfl) (fun _ _ _ h => h) (Or.inl ⟨by rfl, ?hylb13⟩) hHeld ?_
        case hylb13 => (intro w hSw; (try dsimp only at hSw); go_simp; (try with_reducible rfl))
        try simp only [Act.put, List.setIfInBounds_toArray, List.set_cons_zero, List.set_cons_succ]
        refine wpAnyH_take (i := 14) (oi := { dst := some 164, op := Op.move (Operand.tmp 7), type := 28, pos := "law.go:68", after := #[{ on := 13, ground := Ground.guard }], guard := some (13, false) }) (v := ?vlb14) rfl (by kernel_rfl) (by kernel_rfl) (by kernel_rfl) (fun _ _ _ h => h) (Or.inl ⟨by rfl, ?hylb14⟩) hHeld ?_
        case hylb14 => (intro w hSw; (try dsimp only at hSw); go_simp; (try with_reducible rfl))
        try simp only [Act.put, List.setIfInBounds_toArray, List.set_cons_zero, List.set_cons_succ]
        refine wpAnyH_take (i := 15) (oi := { dst := some 165, op := Op.nilCheck (Operand.tmp 164), type := 0, pos := "law.go:68", after := #[{ on := 14, ground := Ground.data }, { on := 13, ground := Ground.guard }], guard := some (13, false) }) (v := ?vlb15) rfl (by kernel_rfl) (by kernel_rfl) (by kernel_rfl) (fun _ _ _ h => h) (Or.inl ⟨by rfl, ?hylb15⟩) hHeld ?_
        case hylb15 => (intro w hSw; (try dsimp only at hSw); go_simp; (try with_reducible rfl))
        try simp only [Act.put, List.setIfInBounds_toArray, List.set_cons_zero, List.set_cons_succ]
        refine wpAnyH_take (i := 16) (oi := { dst := some 166, op := Op.fieldAddr 41 (Operand.tmp 165) 0, type := 0, pos := "law.go:68", after := #[{ on := 15, ground := Ground.data }, { on := 13, ground := Ground.guard }], guard := some (13, false) }) (v := ?vlb16) rfl (by kernel_rfl) (by kernel_rfl) (by kernel_rfl) (fun _ _ _ h => h) (Or.inl ⟨by rfl, ?hylb16⟩) hHeld ?_
        case hylb16 => (intro w hSw; (try dsimp only at hSw); go_simp; (try with_reducible rfl))
        try simp only [Act.put, List.setIfInBounds_toArray, List.set_cons_zero, List.set_cons_succ]
        refine wpAnyH_take (i := 17) (oi := { dst := some 167, op := Op.load 33 (Operand.tmp 166), type := 33, pos := "law.go:68", after := #[{ on := 16, ground := Ground.data }, { on := 13, ground := Ground.guard }], guard := some (13, false) }) (v := ?vlb17) rfl (by kernel_rfl) (by kernel_rfl) (by kernel_rfl) (fun _ _ _ h => h) (Or.inl ⟨by rfl, ?hylb17⟩) hHeld ?_
        case hylb17 => (intro w hSw; (try dsimp only at hSw); go_simp; (try with_reducible rfl))
        try simp only [Act.put, List.setIfInBounds_toArray, List.set_cons_zero, List.set_cons_succ]
        refine wpAnyH_take (i := 19) (oi := { dst := some 169, op := Op.move (Operand.tmp 9), type := 42, pos := "law.go:68", after := #[{ on := 13, ground := Ground.guard }], guard := some (13, false) }) (v := ?vlb19) rfl (by kernel_rfl) (by kernel_rfl) (by kernel_rfl) (fun _ _ _ h => h) (Or.inl ⟨by rfl, ?hylb19⟩) hHeld ?_
        case hylb19 => (intro w hSw; (try dsimp only at hSw); go_simp; (try with_reducible rfl))
        try simp only [Act.put, List.setIfInBounds_toArray, List.set_cons_zero, List.set_cons_succ]
        refine wpAnyH_take (i := 20) (oi := { dst := some 170, op := Op.nilCheck (Operand.tmp 169), type := 0, pos := "law.go:68", after := #[{ on := 19, ground := Ground.data }, { on := 13, ground := Ground.guard }], guard := some (13, false) }) (v := ?vlb20) rfl (by kernel_rfl) (by kernel_rfl) (by kernel_rfl) (fun _ _ _ h => h) (Or.inl ⟨by rfl, ?hylb20⟩) hHeld ?_
        case hylb20 => (intro w hSw; (try dsimp only at hSw); go_simp; (try with_reducible rfl))
        try simp only [Act.put, List.setIfInBounds_toArray, List.set_cons_zero, List.set_cons_succ]
        refine wpAnyH_take (i := 21) (oi := { dst := some 171, op := Op.fieldAddr 45 (Operand.tmp 170) 1, type := 0, pos := "law.go:68", after := #[{ on := 20, ground := Ground.data }, { on := 13, ground := Ground.guard }], guard := some (13, false) }) (v := ?vlb21) rfl (by kernel_rfl) (by kernel_rfl) (by kernel_rfl) (fun _ _ _ h => h) (Or.inl ⟨by rfl, ?hylb21⟩) hHeld ?_
        case hylb21 => (intro w hSw; (try dsimp only at hSw); go_simp; (try with_reducible rfl))
        try simp only [Act.put, List.setIfInBounds_toArray, List.set_cons_zero, List.set_cons_succ]
        refine wpAnyH_take (i := 22) (oi := { dst := some 172, op := Op.load 24 (Operand.tmp 171), type := 24, pos := "law.go:68", after := #[{ on := 21, ground := Ground.data }, { on := 13, ground := Ground.guard }], guard := some (13, false) }) (v := ?vlb22) rfl (by kernel_rfl) (by kernel_rfl) (by kernel_rfl) (fun _ _ _ h => h) (Or.inl ⟨by rfl, ?hylb22⟩) hHeld ?_
        case hylb22 => (intro w hSw; (try dsimp only at hSw); go_simp; (try with_reducible rfl))
        try simp only [Act.put, List.setIfInBounds_toArray, List.set_cons_zero, List.set_cons_succ]
        refine wpAnyH_ready (rs := [18]) (by kernel_rfl) (by simp) ?_
        refine AllReadyH.cons (o := { dst := some 168, op := Op.call { callee := Callee.value (Operand.func 22), args := #[Operand.tmp 167], argTypes := #[33] }, type := 24, pos := "law.go:68", after := #[{ on := 17, ground := Ground.data }, { on := 13, ground := Ground.chain }, { on := 13, ground := Ground.guard }], guard := some (13, false) }) rfl (fun K hK => ?_) AllReadyH.nil
        go_simp
        refine (All_c HBd.out.hand.ar hn20).mono ?_
        rintro e U1 ⟨rfl, hrow, hV⟩
        have HBe := Lib.hid (HBd.out.below hV)
        have HW := Lib.hid hrow.words
        clear hrow hV hHeld HBd
        clear h0 h5 h6 h7 h8 h9 r4 r5 r6 r7 r8 r9
        obtain ⟨h0, _, h5, h6, h7, h8, h9, _⟩ := HBe.out.hand.cells
        obtain ⟨r4, _, r5, r6, r7, r8, r9, _⟩ := HBe.out.ref.cells
        refine hK.out _ _ ?_ (fun hHeld => ?_)
        · exact ⟨h0, h5, h6, h7, h8, h9, r4, r5, r6, r7, r8, r9⟩
        clear hK K
        try simp only [Act.put, List.setIfInBounds_toArray, List.set_cons_zero, List.set_cons_succ]
        refine wpAnyH_ready (rs := [23]) (by kernel_rfl) (by simp) ?_
        refine AllReadyH.cons (o := { dst := some 173, op := Op.call { callee := Callee.value (Operand.func 21), args := #[Operand.tmp 168, Operand.tmp 172], argTypes := #[24, 24] }, type := 4, pos := "law.go:68", after := #[{ on := 18, ground := Ground.data }, { on := 22, ground := Ground.data }, { on := 18, ground := Ground.chain }, { on := 13, ground := Ground.guard }], guard := some (13, false) }) rfl (fun K hK => ?_) AllReadyH.nil
        go_simp
        refine (Same_c _ va n n cap f' hn20 _ HW.out HBe.out.ref.mine.words).mono ?_
        rintro e U2 ⟨rfl, hV⟩
        have HBf := Lib.hid (HBe.out.below hV)
        clear hV hHeld HBe HW
        clear h0 h5 h6 h7 h8 h9 r4 r5 r6 r7 r8 r9
        obtain ⟨h0, _, h5, h6, h7, h8, h9, _⟩ := HBf.out.hand.cells
        obtain ⟨r4, _, r5, r6, r7, r8, r9, _⟩ := HBf.out.ref.cells
        refine hK.out _ _ ?_ (fun hHeld => ?_)
        · exact ⟨h0, h5, h6, h7, h8, h9, r4, r5, r6, r7, r8, r9⟩
        clear hK K
        try simp only [Act.put, List.setIfInBounds_toArray, List.set_cons_zero, List.set_cons_succ]
        refine wpAnyH_take (i := 24) (oi := { dst := some 174, op := Op.unOp UnOp.not 4 (Operand.tmp 173), type := 4, pos := "law.go:68", after := #[{ on := 23, ground := Ground.data }, { on := 13, ground := Ground.guard }], guard := some (13, false) }) (v := ?vlb24) rfl (by kernel_rfl) (by kernel_rfl) (by kernel_rfl) (fun _ _ _ h => h) (Or.inl ⟨by rfl, ?hylb24⟩) hHeld ?_
        case hylb24 => (intro w hSw; (try dsimp only at hSw); go_simp; (try with_reducible rfl))
        try simp only [Act.put, List.setIfInBounds_toArray, List.set_cons_zero, List.set_cons_succ]
        refine wpAnyH_take (i := 25) (oi := { dst := some 175, op := Op.pick (Operand.tmp 163) (Operand.const (Value.bool true)) (Operand.tmp 174), type := 4, pos := "law.go:68", after := #[{ on := 13, ground := Ground.data }, { on := 24, ground := Ground.data }], guard := none }) (v := ?vlb25) rfl (by kernel_rfl) (by kernel_rfl) (by kernel_rfl) (fun _ _ _ h => h) (Or.inl ⟨by rfl, ?hylb25⟩) hHeld ?_
        case hylb25 => (intro w hSw; (try dsimp only at hSw); go_simp; (try with_reducible rfl))
        try simp only [Act.put, List.setIfInBounds_toArray, List.set_cons_zero, List.set_cons_succ]
        refine wpAnyH_done (by kernel_rfl) ?_ _
        clear hHeld
        clear h0 h5 h6 h7 h8 h9 r4 r5 r6 r7 r8 r9
        go_wp2_with fail
        go_roundw
        case rel => exact ⟨k + 1, by go_num, by omega, Lib.hid ⟨f', k', i', x', y', o', HBf.out, HU.out⟩⟩
        case measure => simp [intOf]; omega
      by_cases e2 : K = 2
      · subst e2
        obtain ⟨f', k', i', x', y', o', hu', hh, hrr⟩ := both_store (w := w) (H := H) (A := A) (G := G) (X := X) (va := va) (n := n) (cap := cap) (N := N) (a := a) (b := b) (c := c) (d := d) hu ka ia xa ya oa I X1 hx
        have HU := Lib.hid hu'; have HH := Lib.hid hh; have HR := Lib.hid hrr
        clear hu' hh hrr hu hx hy e1
        go_wp2_with fail
        refine (HH.out _ HB0.out).mono ?_
        rintro e V1 ⟨rfl, hb, hs⟩
        have HB1 := Lib.hid hb
        have HA1 := Lib.hid (HA0.out.other (hs.block _ (lt_of_cell HA0.out.1) HN.out))
        clear hb hs HB0 HA0 HH a0 a1 a2' a3
        obtain ⟨a0, a1, a2', a3⟩ := HA1.out
        go_wp2_with fail
        refine (HR.out _ HB1.out).mono ?_
        rintro e V2 ⟨rfl, hb, hs⟩
        have HB3 := Lib.hid hb
        clear hb hs HB1 HA1 HR a0 a1 a2' a3
        go_wp2_with fail
        have HBd := Lib.hid HB3.out.drew
        clear HB3
        obtain ⟨h0, _, h5, h6, h7, h8, h9, _⟩ := HBd.out.hand.cells
        obtain ⟨r4, _, r5, r6, r7, r8, r9, _⟩ := HBd.out.ref.cells
        refine wp_region_held_drew (S := (fun w' => w'.cell? ⟨H, 0, none⟩ = some (.pointer (some ⟨A, 0, none⟩)) ∧ w'.cell? ⟨H, 5, none⟩ = some (.int .i64 k') ∧ w'.cell? ⟨H, 6, none⟩ = some (.int .i64 i') ∧ w'.cell? ⟨H, 7, none⟩ = some (.int .u64 x') ∧ w'.cell? ⟨H, 8, none⟩ = some (.int .u64 y') ∧ w'.cell? ⟨H, 9, none⟩ = some (.int .u64 o') ∧ w'.cell? ⟨X, 4, none⟩ = some (.slice va n cap) ∧ w'.cell? ⟨X, 5, none⟩ = some (.int .i64 k') ∧ w'.cell? ⟨X, 6, none⟩ = some (.int .i64 i') ∧ w'.cell? ⟨X, 7, none⟩ = some (.int .u64 x') ∧ w'.cell? ⟨X, 8, none⟩ = some (.int .u64 y') ∧ w'.cell? ⟨X, 9, none⟩ = some (.int .u64 o'))) (by kernel_rfl) ?_ (fun hHeld => ?_)
        · exact ⟨h0, h5, h6, h7, h8, h9, r4, r5, r6, r7, r8, r9⟩
        refine wpAnyH_take (i := 0) (oi := { dst := some 150, op := Op.move (Operand.tmp 12), type := 4, pos := "law.go:68", after := #[], guard := none }) (v := ?vsb0) rfl (by kernel_rfl) (by kernel_rfl) (by kernel_rfl) (fun _ _ _ h => h) (Or.inl ⟨by rfl, ?hysb0⟩) hHeld ?_
        case hysb0 => (intro w hSw; (try dsimp only at hSw); go_simp; (try with_reducible rfl))
        try simp only [Act.put, List.setIfInBounds_toArray, List.set_cons_zero, List.set_cons_succ]
        refine wpAnyH_take (i := 1) (oi := { dst := some 151, op := Op.unOp UnOp.not 4 (Operand.tmp 150), type := 4, pos := "law.go:68", after := #[{ on := 0, ground := Ground.data }], guard := none }) (v := ?vsb1) rfl (by kernel_rfl) (by kernel_rfl) (by kernel_rfl) (fun _ _ _ h => h) (Or.inl ⟨by rfl, ?hysb1⟩) hHeld ?_
        case hysb1 => (intro w hSw; (try dsimp only at hSw); go_simp; (try with_reducible rfl))
        try simp only [Act.put, List.setIfInBounds_toArray, List.set_cons_zero, List.set_cons_succ]
        refine wpAnyH_take (i := 2) (oi := { dst := some 152, op := Op.move (Operand.tmp 151), type := 4, pos := "law.go:68", after := #[{ on := 1, ground := Ground.data }], guard := none }) (v := ?vsb2) rfl (by kernel_rfl) (by kernel_rfl) (by kernel_rfl) (fun _ _ _ h => h) (Or.inl ⟨by rfl, ?hysb2⟩) hHeld ?_
        case hysb2 => (intro w hSw; (try dsimp only at hSw); go_simp; (try with_reducible rfl))
        try simp only [Act.put, List.setIfInBounds_toArray, List.set_cons_zero, List.set_cons_succ]
        refine wpAnyH_take (i := 3) (oi := { dst := some 153, op := Op.move (Operand.tmp 7), type := 28, pos := "law.go:68", after := #[{ on := 2, ground := Ground.guard }], guard := some (2, false) }) (v := ?vsb3) rfl (by kernel_rfl) (by kernel_rfl) (by kernel_rfl) (fun _ _ _ h => h) (Or.inl ⟨by rfl, ?hysb3⟩) hHeld ?_
        case hysb3 => (intro w hSw; (try dsimp only at hSw); go_simp; (try with_reducible rfl))
        try simp only [Act.put, List.setIfInBounds_toArray, List.set_cons_zero, List.set_cons_succ]
        refine wpAnyH_take (i := 4) (oi := { dst := some 154, op := Op.nilCheck (Operand.tmp 153), type := 0, pos := "law.go:68", after := #[{ on := 3, ground := Ground.data }, { on := 2, ground := Ground.guard }], guard := some (2, false) }) (v := ?vsb4) rfl (by kernel_rfl) (by kernel_rfl) (by kernel_rfl) (fun _ _ _ h => h) (Or.inl ⟨by rfl, ?hysb4⟩) hHeld ?_
        case hysb4 => (intro w hSw; (try dsimp only at hSw); go_simp; (try with_reducible rfl))
        try simp only [Act.put, List.setIfInBounds_toArray, List.set_cons_zero, List.set_cons_succ]
        refine wpAnyH_take (i := 5) (oi := { dst := some 155, op := Op.fieldAddr 41 (Operand.tmp 154) 2, type := 0, pos := "law.go:68", after := #[{ on := 4, ground := Ground.data }, { on := 2, ground := Ground.guard }], guard := some (2, false) }) (v := ?vsb5) rfl (by kernel_rfl) (by kernel_rfl) (by kernel_rfl) (fun _ _ _ h => h) (Or.inl ⟨by rfl, ?hysb5⟩) hHeld ?_
        case hysb5 => (intro w hSw; (try dsimp only at hSw); go_simp; (try with_reducible rfl))
        try simp only [Act.put, List.setIfInBounds_toArray, List.set_cons_zero, List.set_cons_succ]
        refine wpAnyH_take (i := 6) (oi := { dst := some 156, op := Op.load 39 (Operand.tmp 155), type := 39, pos := "law.go:68", after := #[{ on := 5, ground := Ground.data }, { on := 2, ground := Ground.guard }], guard := some (2, false) }) (v := ?vsb6) rfl (by kernel_rfl) (by kernel_rfl) (by kernel_rfl) (fun _ _ _ h => h) (Or.inl ⟨by rfl, ?hysb6⟩) hHeld ?_
        case hysb6 => (intro w hSw; (try dsimp only at hSw); go_simp; (try with_reducible rfl))
        try simp only [Act.put, List.setIfInBounds_toArray, List.set_cons_zero, List.set_cons_succ]
        refine wpAnyH_take (i := 7) (oi := { dst := some 157, op := Op.move (Operand.tmp 9), type := 42, pos := "law.go:68", after := #[{ on := 2, ground := Ground.guard }], guard := some (2, false) }) (v := ?vsb7) rfl (by kernel_rfl) (by kernel_rfl) (by kernel_rfl) (fun _ _ _ h => h) (Or.inl ⟨by rfl, ?hysb7⟩) hHeld ?_
        case hysb7 => (intro w hSw; (try dsimp only at hSw); go_simp; (try with_reducible rfl))
        try simp only [Act.put, List.setIfInBounds_toArray, List.set_cons_zero, List.set_cons_succ]
        refine wpAnyH_take (i := 8) (oi := { dst := some 158, op := Op.nilCheck (Operand.tmp 157), type := 0, pos := "law.go:68", after := #[{ on := 7, ground := Ground.data }, { on := 2, ground := Ground.guard }], guard := some (2, false) }) (v := ?vsb8) rfl (by kernel_rfl) (by kernel_rfl) (by kernel_rfl) (fun _ _ _ h => h) (Or.inl ⟨by rfl, ?hysb8⟩) hHeld ?_
        case hysb8 => (intro w hSw; (try dsimp only at hSw); go_simp; (try with_reducible rfl))
        try simp only [Act.put, List.setIfInBounds_toArray, List.set_cons_zero, List.set_cons_succ]
        refine wpAnyH_take (i := 9) (oi := { dst := some 159, op := Op.fieldAddr 45 (Operand.tmp 158) 2, type := 0, pos := "law.go:68", after := #[{ on := 8, ground := Ground.data }, { on := 2, ground := Ground.guard }], guard := some (2, false) }) (v := ?vsb9) rfl (by kernel_rfl) (by kernel_rfl) (by kernel_rfl) (fun _ _ _ h => h) (Or.inl ⟨by rfl, ?hysb9⟩) hHeld ?_
        case hysb9 => (intro w hSw; (try dsimp only at hSw); go_simp; (try with_reducible rfl))
        try simp only [Act.put, List.setIfInBounds_toArray, List.set_cons_zero, List.set_cons_succ]
        refine wpAnyH_take (i := 10) (oi := { dst := some 160, op := Op.load 39 (Operand.tmp 159), type := 39, pos := "law.go:68", after := #[{ on := 9, ground := Ground.data }, { on := 2, ground := Ground.guard }], guard := some (2, false) }) (v := ?vsb10) rfl (by kernel_rfl) (by kernel_rfl) (by kernel_rfl) (fun _ _ _ h => h) (Or.inl ⟨by rfl, ?hysb10⟩) hHeld ?_
        case hysb10 => (intro w hSw; (try dsimp only at hSw); go_simp; (try with_reducible rfl))
        try simp only [Act.put, List.setIfInBounds_toArray, List.set_cons_zero, List.set_cons_succ]
        refine wpAnyH_take (i := 11) (oi := { dst := some 161, op := Op.binOp BinOp.neq 39 (Operand.tmp 156) (Operand.tmp 160) 39, type := 4, pos := "law.go:68", after := #[{ on := 6, ground := Ground.data }, { on := 10, ground := Ground.data }, { on := 2, ground := Ground.guard }], guard := some (2, false) }) (v := ?vsb11) rfl (by kernel_rfl) (by kernel_rfl) (by kernel_rfl) (fun _ _ _ h => h) (Or.inl ⟨by rfl, ?hysb11⟩) hHeld ?_
        case hysb11 => (intro w hSw; (try dsimp only at hSw); go_simp; (try with_reducible rfl))
        try simp only [Act.put, List.setIfInBounds_toArray, List.set_cons_zero, List.set_cons_succ]
        refine wpAnyH_take (i := 12) (oi := { dst := some 162, op := Op.pick (Operand.tmp 152) (Operand.const (Value.bool true)) (Operand.tmp 161), type := 4, pos := "law.go:68", after := #[{ on := 2, ground := Ground.data }, { on := 11, ground := Ground.data }], guard := none }) (v := ?vsb12) rfl (by kernel_rfl) (by kernel_rfl) (by kernel_rfl) (fun _ _ _ h => h) (Or.inl ⟨by rfl, ?hysb12⟩) hHeld ?_
        case hysb12 => (intro w hSw; (try dsimp only at hSw); go_simp; (try with_reducible rfl))
        try simp only [Act.put, List.setIfInBounds_toArray, List.set_cons_zero, List.set_cons_succ]
        refine wpAnyH_take (i := 13) (oi := { dst := some 163, op := Op.move (Operand.tmp 162), type := 4, pos := "law.go:68", after := #[{ on := 12, ground := Ground.data }, { on := 2, ground := Ground.chain }], guard := none }) (v := ?vsb13) rfl (by kernel_rfl) (by kernel_rfl) (by kernel_rfl) (fun _ _ _ h => h) (Or.inl ⟨by rfl, ?hysb13⟩) hHeld ?_
        case hysb13 => (intro w hSw; (try dsimp only at hSw); go_simp; (try with_reducible rfl))
        try simp only [Act.put, List.setIfInBounds_toArray, List.set_cons_zero, List.set_cons_succ]
        refine wpAnyH_take (i := 14) (oi := { dst := some 164, op := Op.move (Operand.tmp 7), type := 28, pos := "law.go:68", after := #[{ on := 13, ground := Ground.guard }], guard := some (13, false) }) (v := ?vsb14) rfl (by kernel_rfl) (by kernel_rfl) (by kernel_rfl) (fun _ _ _ h => h) (Or.inl ⟨by rfl, ?hysb14⟩) hHeld ?_
        case hysb14 => (intro w hSw; (try dsimp only at hSw); go_simp; (try with_reducible rfl))
        try simp only [Act.put, List.setIfInBounds_toArray, List.set_cons_zero, List.set_cons_succ]
        refine wpAnyH_take (i := 15) (oi := { dst := some 165, op := Op.nilCheck (Operand.tmp 164), type := 0, pos := "law.go:68", after := #[{ on := 14, ground := Ground.data }, { on := 13, ground := Ground.guard }], guard := some (13, false) }) (v := ?vsb15) rfl (by kernel_rfl) (by kernel_rfl) (by kernel_rfl) (fun _ _ _ h => h) (Or.inl ⟨by rfl, ?hysb15⟩) hHeld ?_
        case hysb15 => (intro w hSw; (try dsimp only at hSw); go_simp; (try with_reducible rfl))
        try simp only [Act.put, List.setIfInBounds_toArray, List.set_cons_zero, List.set_cons_succ]
        refine wpAnyH_take (i := 16) (oi := { dst := some 166, op := Op.fieldAddr 41 (Operand.tmp 165) 0, type := 0, pos := "law.go:68", after := #[{ on := 15, ground := Ground.data }, { on := 13, ground := Ground.guard }], guard := some (13, false) }) (v := ?vsb16) rfl (by kernel_rfl) (by kernel_rfl) (by kernel_rfl) (fun _ _ _ h => h) (Or.inl ⟨by rfl, ?hysb16⟩) hHeld ?_
        case hysb16 => (intro w hSw; (try dsimp only at hSw); go_simp; (try with_reducible rfl))
        try simp only [Act.put, List.setIfInBounds_toArray, List.set_cons_zero, List.set_cons_succ]
        refine wpAnyH_take (i := 17) (oi := { dst := some 167, op := Op.load 33 (Operand.tmp 166), type := 33, pos := "law.go:68", after := #[{ on := 16, ground := Ground.data }, { on := 13, ground := Ground.guard }], guard := some (13, false) }) (v := ?vsb17) rfl (by kernel_rfl) (by kernel_rfl) (by kernel_rfl) (fun _ _ _ h => h) (Or.inl ⟨by rfl, ?hysb17⟩) hHeld ?_
        case hysb17 => (intro w hSw; (try dsimp only at hSw); go_simp; (try with_reducible rfl))
        try simp only [Act.put, List.setIfInBounds_toArray, List.set_cons_zero, List.set_cons_succ]
        refine wpAnyH_take (i := 19) (oi := { dst := some 169, op := Op.move (Operand.tmp 9), type := 42, pos := "law.go:68", after := #[{ on := 13, ground := Ground.guard }], guard := some (13, false) }) (v := ?vsb19) rfl (by kernel_rfl) (by kernel_rfl) (by kernel_rfl) (fun _ _ _ h => h) (Or.inl ⟨by rfl, ?hysb19⟩) hHeld ?_
        case hysb19 => (intro w hSw; (try dsimp only at hSw); go_simp; (try with_reducible rfl))
        try simp only [Act.put, List.setIfInBounds_toArray, List.set_cons_zero, List.set_cons_succ]
        refine wpAnyH_take (i := 20) (oi := { dst := some 170, op := Op.nilCheck (Operand.tmp 169), type := 0, pos := "law.go:68", after := #[{ on := 19, ground := Ground.data }, { on := 13, ground := Ground.guard }], guard := some (13, false) }) (v := ?vsb20) rfl (by kernel_rfl) (by kernel_rfl) (by kernel_rfl) (fun _ _ _ h => h) (Or.inl ⟨by rfl, ?hysb20⟩) hHeld ?_
        case hysb20 => (intro w hSw; (try dsimp only at hSw); go_simp; (try with_reducible rfl))
        try simp only [Act.put, List.setIfInBounds_toArray, List.set_cons_zero, List.set_cons_succ]
        refine wpAnyH_take (i := 21) (oi := { dst := some 171, op := Op.fieldAddr 45 (Operand.tmp 170) 1, type := 0, pos := "law.go:68", after := #[{ on := 20, ground := Ground.data }, { on := 13, ground := Ground.guard }], guard := some (13, false) }) (v := ?vsb21) rfl (by kernel_rfl) (by kernel_rfl) (by kernel_rfl) (fun _ _ _ h => h) (Or.inl ⟨by rfl, ?hysb21⟩) hHeld ?_
        case hysb21 => (intro w hSw; (try dsimp only at hSw); go_simp; (try with_reducible rfl))
        try simp only [Act.put, List.setIfInBounds_toArray, List.set_cons_zero, List.set_cons_succ]
        refine wpAnyH_take (i := 22) (oi := { dst := some 172, op := Op.load 24 (Operand.tmp 171), type := 24, pos := "law.go:68", after := #[{ on := 21, ground := Ground.data }, { on := 13, ground := Ground.guard }], guard := some (13, false) }) (v := ?vsb22) rfl (by kernel_rfl) (by kernel_rfl) (by kernel_rfl) (fun _ _ _ h => h) (Or.inl ⟨by rfl, ?hysb22⟩) hHeld ?_
        case hysb22 => (intro w hSw; (try dsimp only at hSw); go_simp; (try with_reducible rfl))
        try simp only [Act.put, List.setIfInBounds_toArray, List.set_cons_zero, List.set_cons_succ]
        refine wpAnyH_ready (rs := [18]) (by kernel_rfl) (by simp) ?_
        refine AllReadyH.cons (o := { dst := some 168, op := Op.call { callee := Callee.value (Operand.func 22), args := #[Operand.tmp 167], argTypes := #[33] }, type := 24, pos := "law.go:68", after := #[{ on := 17, ground := Ground.data }, { on := 13, ground := Ground.chain }, { on := 13, ground := Ground.guard }], guard := some (13, false) }) rfl (fun K hK => ?_) AllReadyH.nil
        go_simp
        refine (All_c HBd.out.hand.ar hn20).mono ?_
        rintro e U1 ⟨rfl, hrow, hV⟩
        have HBe := Lib.hid (HBd.out.below hV)
        have HW := Lib.hid hrow.words
        clear hrow hV hHeld HBd
        clear h0 h5 h6 h7 h8 h9 r4 r5 r6 r7 r8 r9
        obtain ⟨h0, _, h5, h6, h7, h8, h9, _⟩ := HBe.out.hand.cells
        obtain ⟨r4, _, r5, r6, r7, r8, r9, _⟩ := HBe.out.ref.cells
        refine hK.out _ _ ?_ (fun hHeld => ?_)
        · exact ⟨h0, h5, h6, h7, h8, h9, r4, r5, r6, r7, r8, r9⟩
        clear hK K
        try simp only [Act.put, List.setIfInBounds_toArray, List.set_cons_zero, List.set_cons_succ]
        refine wpAnyH_ready (rs := [23]) (by kernel_rfl) (by simp) ?_
        refine AllReadyH.cons (o := { dst := some 173, op := Op.call { callee := Callee.value (Operand.func 21), args := #[Operand.tmp 168, Operand.tmp 172], argTypes := #[24, 24] }, type := 4, pos := "law.go:68", after := #[{ on := 18, ground := Ground.data }, { on := 22, ground := Ground.data }, { on := 18, ground := Ground.chain }, { on := 13, ground := Ground.guard }], guard := some (13, false) }) rfl (fun K hK => ?_) AllReadyH.nil
        go_simp
        refine (Same_c _ va n n cap f' hn20 _ HW.out HBe.out.ref.mine.words).mono ?_
        rintro e U2 ⟨rfl, hV⟩
        have HBf := Lib.hid (HBe.out.below hV)
        clear hV hHeld HBe HW
        clear h0 h5 h6 h7 h8 h9 r4 r5 r6 r7 r8 r9
        obtain ⟨h0, _, h5, h6, h7, h8, h9, _⟩ := HBf.out.hand.cells
        obtain ⟨r4, _, r5, r6, r7, r8, r9, _⟩ := HBf.out.ref.cells
        refine hK.out _ _ ?_ (fun hHeld => ?_)
        · exact ⟨h0, h5, h6, h7, h8, h9, r4, r5, r6, r7, r8, r9⟩
        clear hK K
        try simp only [Act.put, List.setIfInBounds_toArray, List.set_cons_zero, List.set_cons_succ]
        refine wpAnyH_take (i := 24) (oi := { dst := some 174, op := Op.unOp UnOp.not 4 (Operand.tmp 173), type := 4, pos := "law.go:68", after := #[{ on := 23, ground := Ground.data }, { on := 13, ground := Ground.guard }], guard := some (13, false) }) (v := ?vsb24) rfl (by kernel_rfl) (by kernel_rfl) (by kernel_rfl) (fun _ _ _ h => h) (Or.inl ⟨by rfl, ?hysb24⟩) hHeld ?_
        case hysb24 => (intro w hSw; (try dsimp only at hSw); go_simp; (try with_reducible rfl))
        try simp only [Act.put, List.setIfInBounds_toArray, List.set_cons_zero, List.set_cons_succ]
        refine wpAnyH_take (i := 25) (oi := { dst := some 175, op := Op.pick (Operand.tmp 163) (Operand.const (Value.bool true)) (Operand.tmp 174), type := 4, pos := "law.go:68", after := #[{ on := 13, ground := Ground.data }, { on := 24, ground := Ground.data }], guard := none }) (v := ?vsb25) rfl (by kernel_rfl) (by kernel_rfl) (by kernel_rfl) (fun _ _ _ h => h) (Or.inl ⟨by rfl, ?hysb25⟩) hHeld ?_
        case hysb25 => (intro w hSw; (try dsimp only at hSw); go_simp; (try with_reducible rfl))
        try simp only [Act.put, List.setIfInBounds_toArray, List.set_cons_zero, List.set_cons_succ]
        refine wpAnyH_done (by kernel_rfl) ?_ _
        clear hHeld
        clear h0 h5 h6 h7 h8 h9 r4 r5 r6 r7 r8 r9
        go_wp2_with fail
        go_roundw
        case rel => exact ⟨k + 1, by go_num, by omega, Lib.hid ⟨f', k', i', x', y', o', HBf.out, HU.out⟩⟩
        case measure => simp [intOf]; omega
      by_cases e3 : K = 3
      · subst e3
        obtain ⟨f', k', i', x', y', o', v, hu', hh, hrr⟩ := both_cas (w := w) (H := H) (A := A) (G := G) (X := X) (va := va) (n := n) (cap := cap) (N := N) (a := a) (b := b) (c := c) (d := d) hu ka ia xa ya oa I X1 Y1 hx hy
        have HU := Lib.hid hu'; have HH := Lib.hid hh; have HR := Lib.hid hrr
        clear hu' hh hrr hu hx hy e1 e2
        go_wp2_with fail
        have HB1 := Lib.hid HB0.out.drew
        have HA1 : Hid (ActAt (wr.alloc (.cells #[.int .i64 3, .int .i64 I, .int .u64 X1, .int .u64 Y1] 47)).drew wr.heap.size 0 ⟨3, I, X1, Y1⟩) := Lib.hid (show ActAt (wr.alloc (.cells #[.int .i64 3, .int .i64 I, .int .u64 X1, .int .u64 Y1] 47)) wr.heap.size 0 ⟨3, I, X1, Y1⟩ from HA0.out)
        clear HB0 HA0 a0 a1 a2' a3
        obtain ⟨a0, a1, a2', a3⟩ := HA1.out
        refine wp_region_held_drew (S := (fun w' => w'.cell? ⟨wr.heap.size, 1, none⟩ = some (.int .i64 I) ∧ w'.cell? ⟨wr.heap.size, 2, none⟩ = some (.int .u64 X1) ∧ w'.cell? ⟨wr.heap.size, 3, none⟩ = some (.int .u64 Y1))) (by kernel_rfl) ?_ (fun hHeld => ?_)
        · exact ⟨a1, a2', a3⟩
        refine wpAnyH_take (i := 0) (oi := { dst := some 118, op := Op.move (Operand.tmp 7), type := 28, pos := "law.go:61", after := #[], guard := none }) (v := ?vca0) rfl (by kernel_rfl) (by kernel_rfl) (by kernel_rfl) (fun _ _ _ h => h) (Or.inl ⟨by rfl, ?hyca0⟩) hHeld ?_
        case hyca0 => (intro w hSw; (try dsimp only at hSw); go_simp; (try with_reducible rfl))
        try simp only [Act.put, List.setIfInBounds_toArray, List.set_cons_zero, List.set_cons_succ]
        refine wpAnyH_take (i := 1) (oi := { dst := some 119, op := Op.fieldAddr 47 (Operand.tmp 11) 1, type := 0, pos := "law.go:61", after := #[], guard := none }) (v := ?vca1) rfl (by kernel_rfl) (by kernel_rfl) (by kernel_rfl) (fun _ _ _ h => h) (Or.inl ⟨by rfl, ?hyca1⟩) hHeld ?_
        case hyca1 => (intro w hSw; (try dsimp only at hSw); go_simp; (try with_reducible rfl))
        try simp only [Act.put, List.setIfInBounds_toArray, List.set_cons_zero, List.set_cons_succ]
        refine wpAnyH_take (i := 2) (oi := { dst := some 120, op := Op.load 3 (Operand.tmp 119), type := 3, pos := "law.go:61", after := #[{ on := 1, ground := Ground.data }], guard := none }) (v := ?vca2) rfl (by kernel_rfl) (by kernel_rfl) (by kernel_rfl) (fun _ _ _ h => h) (Or.inl ⟨by rfl, ?hyca2⟩) hHeld ?_
        case hyca2 => (intro w hSw; (try dsimp only at hSw); go_simp; (try with_reducible rfl))
        try simp only [Act.put, List.setIfInBounds_toArray, List.set_cons_zero, List.set_cons_succ]
        refine wpAnyH_take (i := 3) (oi := { dst := some 121, op := Op.fieldAddr 47 (Operand.tmp 11) 2, type := 0, pos := "law.go:61", after := #[], guard := none }) (v := ?vca3) rfl (by kernel_rfl) (by kernel_rfl) (by kernel_rfl) (fun _ _ _ h => h) (Or.inl ⟨by rfl, ?hyca3⟩) hHeld ?_
        case hyca3 => (intro w hSw; (try dsimp only at hSw); go_simp; (try with_reducible rfl))
        try simp only [Act.put, List.setIfInBounds_toArray, List.set_cons_zero, List.set_cons_succ]
        refine wpAnyH_take (i := 4) (oi := { dst := some 122, op := Op.load 37 (Operand.tmp 121), type := 37, pos := "law.go:61", after := #[{ on := 3, ground := Ground.data }], guard := none }) (v := ?vca4) rfl (by kernel_rfl) (by kernel_rfl) (by kernel_rfl) (fun _ _ _ h => h) (Or.inl ⟨by rfl, ?hyca4⟩) hHeld ?_
        case hyca4 => (intro w hSw; (try dsimp only at hSw); go_simp; (try with_reducible rfl))
        try simp only [Act.put, List.setIfInBounds_toArray, List.set_cons_zero, List.set_cons_succ]
        refine wpAnyH_take (i := 5) (oi := { dst := some 123, op := Op.fieldAddr 47 (Operand.tmp 11) 3, type := 0, pos := "law.go:61", after := #[], guard := none }) (v := ?vca5) rfl (by kernel_rfl) (by kernel_rfl) (by kernel_rfl) (fun _ _ _ h => h) (Or.inl ⟨by rfl, ?hyca5⟩) hHeld ?_
        case hyca5 => (intro w hSw; (try dsimp only at hSw); go_simp; (try with_reducible rfl))
        try simp only [Act.put, List.setIfInBounds_toArray, List.set_cons_zero, List.set_cons_succ]
        refine wpAnyH_take (i := 6) (oi := { dst := some 124, op := Op.load 37 (Operand.tmp 123), type := 37, pos := "law.go:61", after := #[{ on := 5, ground := Ground.data }], guard := none }) (v := ?vca6) rfl (by kernel_rfl) (by kernel_rfl) (by kernel_rfl) (fun _ _ _ h => h) (Or.inl ⟨by rfl, ?hyca6⟩) hHeld ?_
        case hyca6 => (intro w hSw; (try dsimp only at hSw); go_simp; (try with_reducible rfl))
        try simp only [Act.put, List.setIfInBounds_toArray, List.set_cons_zero, List.set_cons_succ]
        refine wpAnyH_take (i := 8) (oi := { dst := some 126, op := Op.move (Operand.tmp 9), type := 42, pos := "law.go:61", after := #[], guard := none }) (v := ?vca8) rfl (by kernel_rfl) (by kernel_rfl) (by kernel_rfl) (fun _ _ _ h => h) (Or.inl ⟨by rfl, ?hyca8⟩) hHeld ?_
        case hyca8 => (intro w hSw; (try dsimp only at hSw); go_simp; (try with_reducible rfl))
        try simp only [Act.put, List.setIfInBounds_toArray, List.set_cons_zero, List.set_cons_succ]
        refine wpAnyH_take (i := 9) (oi := { dst := some 127, op := Op.fieldAddr 47 (Operand.tmp 11) 1, type := 0, pos := "law.go:61", after := #[], guard := none }) (v := ?vca9) rfl (by kernel_rfl) (by kernel_rfl) (by kernel_rfl) (fun _ _ _ h => h) (Or.inl ⟨by rfl, ?hyca9⟩) hHeld ?_
        case hyca9 => (intro w hSw; (try dsimp only at hSw); go_simp; (try with_reducible rfl))
        try simp only [Act.put, List.setIfInBounds_toArray, List.set_cons_zero, List.set_cons_succ]
        refine wpAnyH_take (i := 10) (oi := { dst := some 128, op := Op.load 3 (Operand.tmp 127), type := 3, pos := "law.go:61", after := #[{ on := 9, ground := Ground.data }], guard := none }) (v := ?vca10) rfl (by kernel_rfl) (by kernel_rfl) (by kernel_rfl) (fun _ _ _ h => h) (Or.inl ⟨by rfl, ?hyca10⟩) hHeld ?_
        case hyca10 => (intro w hSw; (try dsimp only at hSw); go_simp; (try with_reducible rfl))
        try simp only [Act.put, List.setIfInBounds_toArray, List.set_cons_zero, List.set_cons_succ]
        refine wpAnyH_take (i := 11) (oi := { dst := some 129, op := Op.fieldAddr 47 (Operand.tmp 11) 2, type := 0, pos := "law.go:61", after := #[], guard := none }) (v := ?vca11) rfl (by kernel_rfl) (by kernel_rfl) (by kernel_rfl) (fun _ _ _ h => h) (Or.inl ⟨by rfl, ?hyca11⟩) hHeld ?_
        case hyca11 => (intro w hSw; (try dsimp only at hSw); go_simp; (try with_reducible rfl))
        try simp only [Act.put, List.setIfInBounds_toArray, List.set_cons_zero, List.set_cons_succ]
        refine wpAnyH_take (i := 12) (oi := { dst := some 130, op := Op.load 37 (Operand.tmp 129), type := 37, pos := "law.go:61", after := #[{ on := 11, ground := Ground.data }], guard := none }) (v := ?vca12) rfl (by kernel_rfl) (by kernel_rfl) (by kernel_rfl) (fun _ _ _ h => h) (Or.inl ⟨by rfl, ?hyca12⟩) hHeld ?_
        case hyca12 => (intro w hSw; (try dsimp only at hSw); go_simp; (try with_reducible rfl))
        try simp only [Act.put, List.setIfInBounds_toArray, List.set_cons_zero, List.set_cons_succ]
        refine wpAnyH_take (i := 13) (oi := { dst := some 131, op := Op.fieldAddr 47 (Operand.tmp 11) 3, type := 0, pos := "law.go:61", after := #[], guard := none }) (v := ?vca13) rfl (by kernel_rfl) (by kernel_rfl) (by kernel_rfl) (fun _ _ _ h => h) (Or.inl ⟨by rfl, ?hyca13⟩) hHeld ?_
        case hyca13 => (intro w hSw; (try dsimp only at hSw); go_simp; (try with_reducible rfl))
        try simp only [Act.put, List.setIfInBounds_toArray, List.set_cons_zero, List.set_cons_succ]
        refine wpAnyH_take (i := 14) (oi := { dst := some 132, op := Op.load 37 (Operand.tmp 131), type := 37, pos := "law.go:61", after := #[{ on := 13, ground := Ground.data }], guard := none }) (v := ?vca14) rfl (by kernel_rfl) (by kernel_rfl) (by kernel_rfl) (fun _ _ _ h => h) (Or.inl ⟨by rfl, ?hyca14⟩) hHeld ?_
        case hyca14 => (intro w hSw; (try dsimp only at hSw); go_simp; (try with_reducible rfl))
        try simp only [Act.put, List.setIfInBounds_toArray, List.set_cons_zero, List.set_cons_succ]
        refine wpAnyH_ready (rs := [7]) (by kernel_rfl) (by simp) ?_
        refine AllReadyH.cons (o := { dst := some 125, op := Op.call { callee := Callee.value (Operand.func 16), args := #[Operand.tmp 118, Operand.tmp 120, Operand.tmp 122, Operand.tmp 124], argTypes := #[28, 3, 37, 37] }, type := 4, pos := "law.go:61", after := #[{ on := 0, ground := Ground.data }, { on := 2, ground := Ground.data }, { on := 4, ground := Ground.data }, { on := 6, ground := Ground.data }], guard := none }) rfl (fun K hK => ?_) AllReadyH.nil
        go_simp
        refine (HH.out _ HB1.out).mono ?_
        rintro e V2 ⟨rfl, hb, hs⟩
        have HB2 := Lib.hid hb
        have HA2 := Lib.hid (HA1.out.other (hs.block _ (lt_of_cell HA1.out.1) HN.out))
        clear hb hs hHeld HB1 HA1 HH a0 a1 a2' a3
        obtain ⟨a0, a1, a2', a3⟩ := HA2.out
        refine hK.out _ _ ?_ (fun hHeld => ?_)
        · exact ⟨a1, a2', a3⟩
        clear hK K
        try simp only [Act.put, List.setIfInBounds_toArray, List.set_cons_zero, List.set_cons_succ]
        refine wpAnyH_ready (rs := [15]) (by kernel_rfl) (by simp) ?_
        refine AllReadyH.cons (o := { dst := some 133, op := Op.call { callee := Callee.value (Operand.func 17), args := #[Operand.tmp 126, Operand.tmp 128, Operand.tmp 130, Operand.tmp 132], argTypes := #[42, 3, 37, 37] }, type := 4, pos := "law.go:61", after := #[{ on := 8, ground := Ground.data }, { on := 10, ground := Ground.data }, { on := 12, ground := Ground.data }, { on := 14, ground := Ground.data }, { on := 7, ground := Ground.chain }], guard := none }) rfl (fun K hK => ?_) AllReadyH.nil
        go_simp
        refine (HR.out _ HB2.out).mono ?_
        rintro e V3 ⟨rfl, hb, hs⟩
        have HB3 := Lib.hid hb
        have HA3 := Lib.hid (HA2.out.other (hs.block _ (lt_of_cell HA2.out.1) HN.out))
        clear hb hs hHeld HB2 HA2 HR a0 a1 a2' a3
        obtain ⟨a0, a1, a2', a3⟩ := HA3.out
        refine hK.out _ _ ?_ (fun hHeld => ?_)
        · exact ⟨a1, a2', a3⟩
        clear hK K
        try simp only [Act.put, List.setIfInBounds_toArray, List.set_cons_zero, List.set_cons_succ]
        refine wpAnyH_take (i := 16) (oi := { dst := some 134, op := Op.binOp BinOp.eql 4 (Operand.tmp 125) (Operand.tmp 133) 4, type := 4, pos := "law.go:61", after := #[{ on := 7, ground := Ground.data }, { on := 15, ground := Ground.data }], guard := none }) (v := ?vca16) rfl (by kernel_rfl) (by kernel_rfl) (by kernel_rfl) (fun _ _ _ h => h) (Or.inl ⟨by rfl, ?hyca16⟩) hHeld ?_
        case hyca16 => (intro w hSw; (try dsimp only at hSw); go_simp; (try with_reducible rfl))
        try simp only [Act.put, List.setIfInBounds_toArray, List.set_cons_zero, List.set_cons_succ]
        refine wpAnyH_take (i := 17) (oi := { dst := some 12, op := Op.assign (Operand.tmp 134), type := 4, pos := "law.go:61", after := #[{ on := 16, ground := Ground.data }, { on := 15, ground := Ground.chain }, { on := 0, ground := Ground.phase }, { on := 1, ground := Ground.phase }, { on := 2, ground := Ground.phase }, { on := 3, ground := Ground.phase }, { on := 4, ground := Ground.phase }, { on := 5, ground := Ground.phase }, { on := 6, ground := Ground.phase }, { on := 7, ground := Ground.phase }, { on := 8, ground := Ground.phase }, { on := 9, ground := Ground.phase }, { on := 10, ground := Ground.phase }, { on := 11, ground := Ground.phase }, { on := 12, ground := Ground.phase }, { on := 13, ground := Ground.phase }, { on := 14, ground := Ground.phase }, { on := 15, ground := Ground.phase }, { on := 16, ground := Ground.phase }], guard := none }) (v := ?vca17) rfl (by kernel_rfl) (by kernel_rfl) (by kernel_rfl) (fun _ _ _ h => h) (Or.inl ⟨by rfl, ?hyca17⟩) hHeld ?_
        case hyca17 => (intro w hSw; (try dsimp only at hSw); go_simp; (try with_reducible rfl))
        try simp only [Act.put, List.setIfInBounds_toArray, List.set_cons_zero, List.set_cons_succ]
        refine wpAnyH_done (by kernel_rfl) ?_ _
        clear hHeld a0 a1 a2' a3
        go_wp2_with fail
        have HBd := Lib.hid HB3.out.drew
        clear HB3
        obtain ⟨h0, _, h5, h6, h7, h8, h9, _⟩ := HBd.out.hand.cells
        obtain ⟨r4, _, r5, r6, r7, r8, r9, _⟩ := HBd.out.ref.cells
        refine wp_region_held_drew (S := (fun w' => w'.cell? ⟨H, 0, none⟩ = some (.pointer (some ⟨A, 0, none⟩)) ∧ w'.cell? ⟨H, 5, none⟩ = some (.int .i64 k') ∧ w'.cell? ⟨H, 6, none⟩ = some (.int .i64 i') ∧ w'.cell? ⟨H, 7, none⟩ = some (.int .u64 x') ∧ w'.cell? ⟨H, 8, none⟩ = some (.int .u64 y') ∧ w'.cell? ⟨H, 9, none⟩ = some (.int .u64 o') ∧ w'.cell? ⟨X, 4, none⟩ = some (.slice va n cap) ∧ w'.cell? ⟨X, 5, none⟩ = some (.int .i64 k') ∧ w'.cell? ⟨X, 6, none⟩ = some (.int .i64 i') ∧ w'.cell? ⟨X, 7, none⟩ = some (.int .u64 x') ∧ w'.cell? ⟨X, 8, none⟩ = some (.int .u64 y') ∧ w'.cell? ⟨X, 9, none⟩ = some (.int .u64 o'))) (by kernel_rfl) ?_ (fun hHeld => ?_)
        · exact ⟨h0, h5, h6, h7, h8, h9, r4, r5, r6, r7, r8, r9⟩
        refine wpAnyH_take (i := 0) (oi := { dst := some 150, op := Op.move (Operand.tmp 12), type := 4, pos := "law.go:68", after := #[], guard := none }) (v := ?vcb0) rfl (by kernel_rfl) (by kernel_rfl) (by kernel_rfl) (fun _ _ _ h => h) (Or.inl ⟨by rfl, ?hycb0⟩) hHeld ?_
        case hycb0 => (intro w hSw; (try dsimp only at hSw); go_simp; (try with_reducible rfl))
        try simp only [Act.put, List.setIfInBounds_toArray, List.set_cons_zero, List.set_cons_succ]
        refine wpAnyH_take (i := 1) (oi := { dst := some 151, op := Op.unOp UnOp.not 4 (Operand.tmp 150), type := 4, pos := "law.go:68", after := #[{ on := 0, ground := Ground.data }], guard := none }) (v := ?vcb1) rfl (by kernel_rfl) (by kernel_rfl) (by kernel_rfl) (fun _ _ _ h => h) (Or.inl ⟨by rfl, ?hycb1⟩) hHeld ?_
        case hycb1 => (intro w hSw; (try dsimp only at hSw); go_simp; (try with_reducible rfl))
        try simp only [Act.put, List.setIfInBounds_toArray, List.set_cons_zero, List.set_cons_succ]
        refine wpAnyH_take (i := 2) (oi := { dst := some 152, op := Op.move (Operand.tmp 151), type := 4, pos := "law.go:68", after := #[{ on := 1, ground := Ground.data }], guard := none }) (v := ?vcb2) rfl (by kernel_rfl) (by kernel_rfl) (by kernel_rfl) (fun _ _ _ h => h) (Or.inl ⟨by rfl, ?hycb2⟩) hHeld ?_
        case hycb2 => (intro w hSw; (try dsimp only at hSw); go_simp; (try with_reducible rfl))
        try simp only [Act.put, List.setIfInBounds_toArray, List.set_cons_zero, List.set_cons_succ]
        refine wpAnyH_take (i := 3) (oi := { dst := some 153, op := Op.move (Operand.tmp 7), type := 28, pos := "law.go:68", after := #[{ on := 2, ground := Ground.guard }], guard := some (2, false) }) (v := ?vcb3) rfl (by kernel_rfl) (by kernel_rfl) (by kernel_rfl) (fun _ _ _ h => h) (Or.inl ⟨by rfl, ?hycb3⟩) hHeld ?_
        case hycb3 => (intro w hSw; (try dsimp only at hSw); go_simp; (try with_reducible rfl))
        try simp only [Act.put, List.setIfInBounds_toArray, List.set_cons_zero, List.set_cons_succ]
        refine wpAnyH_take (i := 4) (oi := { dst := some 154, op := Op.nilCheck (Operand.tmp 153), type := 0, pos := "law.go:68", after := #[{ on := 3, ground := Ground.data }, { on := 2, ground := Ground.guard }], guard := some (2, false) }) (v := ?vcb4) rfl (by kernel_rfl) (by kernel_rfl) (by kernel_rfl) (fun _ _ _ h => h) (Or.inl ⟨by rfl, ?hycb4⟩) hHeld ?_
        case hycb4 => (intro w hSw; (try dsimp only at hSw); go_simp; (try with_reducible rfl))
        try simp only [Act.put, List.setIfInBounds_toArray, List.set_cons_zero, List.set_cons_succ]
        refine wpAnyH_take (i := 5) (oi := { dst := some 155, op := Op.fieldAddr 41 (Operand.tmp 154) 2, type := 0, pos := "law.go:68", after := #[{ on := 4, ground := Ground.data }, { on := 2, ground := Ground.guard }], guard := some (2, false) }) (v := ?vcb5) rfl (by kernel_rfl) (by kernel_rfl) (by kernel_rfl) (fun _ _ _ h => h) (Or.inl ⟨by rfl, ?hycb5⟩) hHeld ?_
        case hycb5 => (intro w hSw; (try dsimp only at hSw); go_simp; (try with_reducible rfl))
        try simp only [Act.put, List.setIfInBounds_toArray, List.set_cons_zero, List.set_cons_succ]
        refine wpAnyH_take (i := 6) (oi := { dst := some 156, op := Op.load 39 (Operand.tmp 155), type := 39, pos := "law.go:68", after := #[{ on := 5, ground := Ground.data }, { on := 2, ground := Ground.guard }], guard := some (2, false) }) (v := ?vcb6) rfl (by kernel_rfl) (by kernel_rfl) (by kernel_rfl) (fun _ _ _ h => h) (Or.inl ⟨by rfl, ?hycb6⟩) hHeld ?_
        case hycb6 => (intro w hSw; (try dsimp only at hSw); go_simp; (try with_reducible rfl))
        try simp only [Act.put, List.setIfInBounds_toArray, List.set_cons_zero, List.set_cons_succ]
        refine wpAnyH_take (i := 7) (oi := { dst := some 157, op := Op.move (Operand.tmp 9), type := 42, pos := "law.go:68", after := #[{ on := 2, ground := Ground.guard }], guard := some (2, false) }) (v := ?vcb7) rfl (by kernel_rfl) (by kernel_rfl) (by kernel_rfl) (fun _ _ _ h => h) (Or.inl ⟨by rfl, ?hycb7⟩) hHeld ?_
        case hycb7 => (intro w hSw; (try dsimp only at hSw); go_simp; (try with_reducible rfl))
        try simp only [Act.put, List.setIfInBounds_toArray, List.set_cons_zero, List.set_cons_succ]
        refine wpAnyH_take (i := 8) (oi := { dst := some 158, op := Op.nilCheck (Operand.tmp 157), type := 0, pos := "law.go:68", after := #[{ on := 7, ground := Ground.data }, { on := 2, ground := Ground.guard }], guard := some (2, false) }) (v := ?vcb8) rfl (by kernel_rfl) (by kernel_rfl) (by kernel_rfl) (fun _ _ _ h => h) (Or.inl ⟨by rfl, ?hycb8⟩) hHeld ?_
        case hycb8 => (intro w hSw; (try dsimp only at hSw); go_simp; (try with_reducible rfl))
        try simp only [Act.put, List.setIfInBounds_toArray, List.set_cons_zero, List.set_cons_succ]
        refine wpAnyH_take (i := 9) (oi := { dst := some 159, op := Op.fieldAddr 45 (Operand.tmp 158) 2, type := 0, pos := "law.go:68", after := #[{ on := 8, ground := Ground.data }, { on := 2, ground := Ground.guard }], guard := some (2, false) }) (v := ?vcb9) rfl (by kernel_rfl) (by kernel_rfl) (by kernel_rfl) (fun _ _ _ h => h) (Or.inl ⟨by rfl, ?hycb9⟩) hHeld ?_
        case hycb9 => (intro w hSw; (try dsimp only at hSw); go_simp; (try with_reducible rfl))
        try simp only [Act.put, List.setIfInBounds_toArray, List.set_cons_zero, List.set_cons_succ]
        refine wpAnyH_take (i := 10) (oi := { dst := some 160, op := Op.load 39 (Operand.tmp 159), type := 39, pos := "law.go:68", after := #[{ on := 9, ground := Ground.data }, { on := 2, ground := Ground.guard }], guard := some (2, false) }) (v := ?vcb10) rfl (by kernel_rfl) (by kernel_rfl) (by kernel_rfl) (fun _ _ _ h => h) (Or.inl ⟨by rfl, ?hycb10⟩) hHeld ?_
        case hycb10 => (intro w hSw; (try dsimp only at hSw); go_simp; (try with_reducible rfl))
        try simp only [Act.put, List.setIfInBounds_toArray, List.set_cons_zero, List.set_cons_succ]
        refine wpAnyH_take (i := 11) (oi := { dst := some 161, op := Op.binOp BinOp.neq 39 (Operand.tmp 156) (Operand.tmp 160) 39, type := 4, pos := "law.go:68", after := #[{ on := 6, ground := Ground.data }, { on := 10, ground := Ground.data }, { on := 2, ground := Ground.guard }], guard := some (2, false) }) (v := ?vcb11) rfl (by kernel_rfl) (by kernel_rfl) (by kernel_rfl) (fun _ _ _ h => h) (Or.inl ⟨by rfl, ?hycb11⟩) hHeld ?_
        case hycb11 => (intro w hSw; (try dsimp only at hSw); go_simp; (try with_reducible rfl))
        try simp only [Act.put, List.setIfInBounds_toArray, List.set_cons_zero, List.set_cons_succ]
        refine wpAnyH_take (i := 12) (oi := { dst := some 162, op := Op.pick (Operand.tmp 152) (Operand.const (Value.bool true)) (Operand.tmp 161), type := 4, pos := "law.go:68", after := #[{ on := 2, ground := Ground.data }, { on := 11, ground := Ground.data }], guard := none }) (v := ?vcb12) rfl (by kernel_rfl) (by kernel_rfl) (by kernel_rfl) (fun _ _ _ h => h) (Or.inl ⟨by rfl, ?hycb12⟩) hHeld ?_
        case hycb12 => (intro w hSw; (try dsimp only at hSw); go_simp; (try with_reducible rfl))
        try simp only [Act.put, List.setIfInBounds_toArray, List.set_cons_zero, List.set_cons_succ]
        refine wpAnyH_take (i := 13) (oi := { dst := some 163, op := Op.move (Operand.tmp 162), type := 4, pos := "law.go:68", after := #[{ on := 12, ground := Ground.data }, { on := 2, ground := Ground.chain }], guard := none }) (v := ?vcb13) rfl (by kernel_rfl) (by kernel_rfl) (by kernel_rfl) (fun _ _ _ h => h) (Or.inl ⟨by rfl, ?hycb13⟩) hHeld ?_
        case hycb13 => (intro w hSw; (try dsimp only at hSw); go_simp; (try with_reducible rfl))
        try simp only [Act.put, List.setIfInBounds_toArray, List.set_cons_zero, List.set_cons_succ]
        refine wpAnyH_take (i := 14) (oi := { dst := some 164, op := Op.move (Operand.tmp 7), type := 28, pos := "law.go:68", after := #[{ on := 13, ground := Ground.guard }], guard := some (13, false) }) (v := ?vcb14) rfl (by kernel_rfl) (by kernel_rfl) (by kernel_rfl) (fun _ _ _ h => h) (Or.inl ⟨by rfl, ?hycb14⟩) hHeld ?_
        case hycb14 => (intro w hSw; (try dsimp only at hSw); go_simp; (try with_reducible rfl))
        try simp only [Act.put, List.setIfInBounds_toArray, List.set_cons_zero, List.set_cons_succ]
        refine wpAnyH_take (i := 15) (oi := { dst := some 165, op := Op.nilCheck (Operand.tmp 164), type := 0, pos := "law.go:68", after := #[{ on := 14, ground := Ground.data }, { on := 13, ground := Ground.guard }], guard := some (13, false) }) (v := ?vcb15) rfl (by kernel_rfl) (by kernel_rfl) (by kernel_rfl) (fun _ _ _ h => h) (Or.inl ⟨by rfl, ?hycb15⟩) hHeld ?_
        case hycb15 => (intro w hSw; (try dsimp only at hSw); go_simp; (try with_reducible rfl))
        try simp only [Act.put, List.setIfInBounds_toArray, List.set_cons_zero, List.set_cons_succ]
        refine wpAnyH_take (i := 16) (oi := { dst := some 166, op := Op.fieldAddr 41 (Operand.tmp 165) 0, type := 0, pos := "law.go:68", after := #[{ on := 15, ground := Ground.data }, { on := 13, ground := Ground.guard }], guard := some (13, false) }) (v := ?vcb16) rfl (by kernel_rfl) (by kernel_rfl) (by kernel_rfl) (fun _ _ _ h => h) (Or.inl ⟨by rfl, ?hycb16⟩) hHeld ?_
        case hycb16 => (intro w hSw; (try dsimp only at hSw); go_simp; (try with_reducible rfl))
        try simp only [Act.put, List.setIfInBounds_toArray, List.set_cons_zero, List.set_cons_succ]
        refine wpAnyH_take (i := 17) (oi := { dst := some 167, op := Op.load 33 (Operand.tmp 166), type := 33, pos := "law.go:68", after := #[{ on := 16, ground := Ground.data }, { on := 13, ground := Ground.guard }], guard := some (13, false) }) (v := ?vcb17) rfl (by kernel_rfl) (by kernel_rfl) (by kernel_rfl) (fun _ _ _ h => h) (Or.inl ⟨by rfl, ?hycb17⟩) hHeld ?_
        case hycb17 => (intro w hSw; (try dsimp only at hSw); go_simp; (try with_reducible rfl))
        try simp only [Act.put, List.setIfInBounds_toArray, List.set_cons_zero, List.set_cons_succ]
        refine wpAnyH_take (i := 19) (oi := { dst := some 169, op := Op.move (Operand.tmp 9), type := 42, pos := "law.go:68", after := #[{ on := 13, ground := Ground.guard }], guard := some (13, false) }) (v := ?vcb19) rfl (by kernel_rfl) (by kernel_rfl) (by kernel_rfl) (fun _ _ _ h => h) (Or.inl ⟨by rfl, ?hycb19⟩) hHeld ?_
        case hycb19 => (intro w hSw; (try dsimp only at hSw); go_simp; (try with_reducible rfl))
        try simp only [Act.put, List.setIfInBounds_toArray, List.set_cons_zero, List.set_cons_succ]
        refine wpAnyH_take (i := 20) (oi := { dst := some 170, op := Op.nilCheck (Operand.tmp 169), type := 0, pos := "law.go:68", after := #[{ on := 19, ground := Ground.data }, { on := 13, ground := Ground.guard }], guard := some (13, false) }) (v := ?vcb20) rfl (by kernel_rfl) (by kernel_rfl) (by kernel_rfl) (fun _ _ _ h => h) (Or.inl ⟨by rfl, ?hycb20⟩) hHeld ?_
        case hycb20 => (intro w hSw; (try dsimp only at hSw); go_simp; (try with_reducible rfl))
        try simp only [Act.put, List.setIfInBounds_toArray, List.set_cons_zero, List.set_cons_succ]
        refine wpAnyH_take (i := 21) (oi := { dst := some 171, op := Op.fieldAddr 45 (Operand.tmp 170) 1, type := 0, pos := "law.go:68", after := #[{ on := 20, ground := Ground.data }, { on := 13, ground := Ground.guard }], guard := some (13, false) }) (v := ?vcb21) rfl (by kernel_rfl) (by kernel_rfl) (by kernel_rfl) (fun _ _ _ h => h) (Or.inl ⟨by rfl, ?hycb21⟩) hHeld ?_
        case hycb21 => (intro w hSw; (try dsimp only at hSw); go_simp; (try with_reducible rfl))
        try simp only [Act.put, List.setIfInBounds_toArray, List.set_cons_zero, List.set_cons_succ]
        refine wpAnyH_take (i := 22) (oi := { dst := some 172, op := Op.load 24 (Operand.tmp 171), type := 24, pos := "law.go:68", after := #[{ on := 21, ground := Ground.data }, { on := 13, ground := Ground.guard }], guard := some (13, false) }) (v := ?vcb22) rfl (by kernel_rfl) (by kernel_rfl) (by kernel_rfl) (fun _ _ _ h => h) (Or.inl ⟨by rfl, ?hycb22⟩) hHeld ?_
        case hycb22 => (intro w hSw; (try dsimp only at hSw); go_simp; (try with_reducible rfl))
        try simp only [Act.put, List.setIfInBounds_toArray, List.set_cons_zero, List.set_cons_succ]
        refine wpAnyH_ready (rs := [18]) (by kernel_rfl) (by simp) ?_
        refine AllReadyH.cons (o := { dst := some 168, op := Op.call { callee := Callee.value (Operand.func 22), args := #[Operand.tmp 167], argTypes := #[33] }, type := 24, pos := "law.go:68", after := #[{ on := 17, ground := Ground.data }, { on := 13, ground := Ground.chain }, { on := 13, ground := Ground.guard }], guard := some (13, false) }) rfl (fun K hK => ?_) AllReadyH.nil
        go_simp
        refine (All_c HBd.out.hand.ar hn20).mono ?_
        rintro e U1 ⟨rfl, hrow, hV⟩
        have HBe := Lib.hid (HBd.out.below hV)
        have HW := Lib.hid hrow.words
        clear hrow hV hHeld HBd
        clear h0 h5 h6 h7 h8 h9 r4 r5 r6 r7 r8 r9
        obtain ⟨h0, _, h5, h6, h7, h8, h9, _⟩ := HBe.out.hand.cells
        obtain ⟨r4, _, r5, r6, r7, r8, r9, _⟩ := HBe.out.ref.cells
        refine hK.out _ _ ?_ (fun hHeld => ?_)
        · exact ⟨h0, h5, h6, h7, h8, h9, r4, r5, r6, r7, r8, r9⟩
        clear hK K
        try simp only [Act.put, List.setIfInBounds_toArray, List.set_cons_zero, List.set_cons_succ]
        refine wpAnyH_ready (rs := [23]) (by kernel_rfl) (by simp) ?_
        refine AllReadyH.cons (o := { dst := some 173, op := Op.call { callee := Callee.value (Operand.func 21), args := #[Operand.tmp 168, Operand.tmp 172], argTypes := #[24, 24] }, type := 4, pos := "law.go:68", after := #[{ on := 18, ground := Ground.data }, { on := 22, ground := Ground.data }, { on := 18, ground := Ground.chain }, { on := 13, ground := Ground.guard }], guard := some (13, false) }) rfl (fun K hK => ?_) AllReadyH.nil
        go_simp
        refine (Same_c _ va n n cap f' hn20 _ HW.out HBe.out.ref.mine.words).mono ?_
        rintro e U2 ⟨rfl, hV⟩
        have HBf := Lib.hid (HBe.out.below hV)
        clear hV hHeld HBe HW
        clear h0 h5 h6 h7 h8 h9 r4 r5 r6 r7 r8 r9
        obtain ⟨h0, _, h5, h6, h7, h8, h9, _⟩ := HBf.out.hand.cells
        obtain ⟨r4, _, r5, r6, r7, r8, r9, _⟩ := HBf.out.ref.cells
        refine hK.out _ _ ?_ (fun hHeld => ?_)
        · exact ⟨h0, h5, h6, h7, h8, h9, r4, r5, r6, r7, r8, r9⟩
        clear hK K
        try simp only [Act.put, List.setIfInBounds_toArray, List.set_cons_zero, List.set_cons_succ]
        refine wpAnyH_take (i := 24) (oi := { dst := some 174, op := Op.unOp UnOp.not 4 (Operand.tmp 173), type := 4, pos := "law.go:68", after := #[{ on := 23, ground := Ground.data }, { on := 13, ground := Ground.guard }], guard := some (13, false) }) (v := ?vcb24) rfl (by kernel_rfl) (by kernel_rfl) (by kernel_rfl) (fun _ _ _ h => h) (Or.inl ⟨by rfl, ?hycb24⟩) hHeld ?_
        case hycb24 => (intro w hSw; (try dsimp only at hSw); go_simp; (try with_reducible rfl))
        try simp only [Act.put, List.setIfInBounds_toArray, List.set_cons_zero, List.set_cons_succ]
        refine wpAnyH_take (i := 25) (oi := { dst := some 175, op := Op.pick (Operand.tmp 163) (Operand.const (Value.bool true)) (Operand.tmp 174), type := 4, pos := "law.go:68", after := #[{ on := 13, ground := Ground.data }, { on := 24, ground := Ground.data }], guard := none }) (v := ?vcb25) rfl (by kernel_rfl) (by kernel_rfl) (by kernel_rfl) (fun _ _ _ h => h) (Or.inl ⟨by rfl, ?hycb25⟩) hHeld ?_
        case hycb25 => (intro w hSw; (try dsimp only at hSw); go_simp; (try with_reducible rfl))
        try simp only [Act.put, List.setIfInBounds_toArray, List.set_cons_zero, List.set_cons_succ]
        refine wpAnyH_done (by kernel_rfl) ?_ _
        clear hHeld
        clear h0 h5 h6 h7 h8 h9 r4 r5 r6 r7 r8 r9
        go_wp2_with fail
        go_roundw
        case rel => exact ⟨k + 1, by go_num, by omega, Lib.hid ⟨f', k', i', x', y', o', HBf.out, HU.out⟩⟩
        case measure => simp [intOf]; omega
      by_cases e4 : K = 4
      · subst e4
        obtain ⟨f', k', i', x', y', o', v, hu', hh, hrr⟩ := both_add (w := w) (H := H) (A := A) (G := G) (X := X) (va := va) (n := n) (cap := cap) (N := N) (a := a) (b := b) (c := c) (d := d) hu ka ia xa ya oa I X1 hx
        have HU := Lib.hid hu'; have HH := Lib.hid hh; have HR := Lib.hid hrr
        clear hu' hh hrr hu hx hy e1 e2 e3
        go_wp2_with fail
        have HB1 := Lib.hid HB0.out.drew
        have HA1 : Hid (ActAt (wr.alloc (.cells #[.int .i64 4, .int .i64 I, .int .u64 X1, .int .u64 Y1] 47)).drew wr.heap.size 0 ⟨4, I, X1, Y1⟩) := Lib.hid (show ActAt (wr.alloc (.cells #[.int .i64 4, .int .i64 I, .int .u64 X1, .int .u64 Y1] 47)) wr.heap.size 0 ⟨4, I, X1, Y1⟩ from HA0.out)
        clear HB0 HA0 a0 a1 a2' a3
        obtain ⟨a0, a1, a2', a3⟩ := HA1.out
        refine wp_region_held_drew (S := (fun w' => w'.cell? ⟨wr.heap.size, 1, none⟩ = some (.int .i64 I) ∧ w'.cell? ⟨wr.heap.size, 2, none⟩ = some (.int .u64 X1))) (by kernel_rfl) ?_ (fun hHeld => ?_)
        · exact ⟨a1, a2'⟩
        refine wpAnyH_take (i := 0) (oi := { dst := some 137, op := Op.move (Operand.tmp 7), type := 28, pos := "law.go:63", after := #[], guard := none }) (v := ?vaa0) rfl (by kernel_rfl) (by kernel_rfl) (by kernel_rfl) (fun _ _ _ h => h) (Or.inl ⟨by rfl, ?hyaa0⟩) hHeld ?_
        case hyaa0 => (intro w hSw; (try dsimp only at hSw); go_simp; (try with_reducible rfl))
        try simp only [Act.put, List.setIfInBounds_toArray, List.set_cons_zero, List.set_cons_succ]
        refine wpAnyH_take (i := 1) (oi := { dst := some 138, op := Op.fieldAddr 47 (Operand.tmp 11) 1, type := 0, pos := "law.go:63", after := #[], guard := none }) (v := ?vaa1) rfl (by kernel_rfl) (by kernel_rfl) (by kernel_rfl) (fun _ _ _ h => h) (Or.inl ⟨by rfl, ?hyaa1⟩) hHeld ?_
        case hyaa1 => (intro w hSw; (try dsimp only at hSw); go_simp; (try with_reducible rfl))
        try simp only [Act.put, List.setIfInBounds_toArray, List.set_cons_zero, List.set_cons_succ]
        refine wpAnyH_take (i := 2) (oi := { dst := some 139, op := Op.load 3 (Operand.tmp 138), type := 3, pos := "law.go:63", after := #[{ on := 1, ground := Ground.data }], guard := none }) (v := ?vaa2) rfl (by kernel_rfl) (by kernel_rfl) (by kernel_rfl) (fun _ _ _ h => h) (Or.inl ⟨by rfl, ?hyaa2⟩) hHeld ?_
        case hyaa2 => (intro w hSw; (try dsimp only at hSw); go_simp; (try with_reducible rfl))
        try simp only [Act.put, List.setIfInBounds_toArray, List.set_cons_zero, List.set_cons_succ]
        refine wpAnyH_take (i := 3) (oi := { dst := some 140, op := Op.fieldAddr 47 (Operand.tmp 11) 2, type := 0, pos := "law.go:63", after := #[], guard := none }) (v := ?vaa3) rfl (by kernel_rfl) (by kernel_rfl) (by kernel_rfl) (fun _ _ _ h => h) (Or.inl ⟨by rfl, ?hyaa3⟩) hHeld ?_
        case hyaa3 => (intro w hSw; (try dsimp only at hSw); go_simp; (try with_reducible rfl))
        try simp only [Act.put, List.setIfInBounds_toArray, List.set_cons_zero, List.set_cons_succ]
        refine wpAnyH_take (i := 4) (oi := { dst := some 141, op := Op.load 37 (Operand.tmp 140), type := 37, pos := "law.go:63", after := #[{ on := 3, ground := Ground.data }], guard := none }) (v := ?vaa4) rfl (by kernel_rfl) (by kernel_rfl) (by kernel_rfl) (fun _ _ _ h => h) (Or.inl ⟨by rfl, ?hyaa4⟩) hHeld ?_
        case hyaa4 => (intro w hSw; (try dsimp only at hSw); go_simp; (try with_reducible rfl))
        try simp only [Act.put, List.setIfInBounds_toArray, List.set_cons_zero, List.set_cons_succ]
        refine wpAnyH_take (i := 6) (oi := { dst := some 143, op := Op.move (Operand.tmp 9), type := 42, pos := "law.go:63", after := #[], guard := none }) (v := ?vaa6) rfl (by kernel_rfl) (by kernel_rfl) (by kernel_rfl) (fun _ _ _ h => h) (Or.inl ⟨by rfl, ?hyaa6⟩) hHeld ?_
        case hyaa6 => (intro w hSw; (try dsimp only at hSw); go_simp; (try with_reducible rfl))
        try simp only [Act.put, List.setIfInBounds_toArray, List.set_cons_zero, List.set_cons_succ]
        refine wpAnyH_take (i := 7) (oi := { dst := some 144, op := Op.fieldAddr 47 (Operand.tmp 11) 1, type := 0, pos := "law.go:63", after := #[], guard := none }) (v := ?vaa7) rfl (by kernel_rfl) (by kernel_rfl) (by kernel_rfl) (fun _ _ _ h => h) (Or.inl ⟨by rfl, ?hyaa7⟩) hHeld ?_
        case hyaa7 => (intro w hSw; (try dsimp only at hSw); go_simp; (try with_reducible rfl))
        try simp only [Act.put, List.setIfInBounds_toArray, List.set_cons_zero, List.set_cons_succ]
        refine wpAnyH_take (i := 8) (oi := { dst := some 145, op := Op.load 3 (Operand.tmp 144), type := 3, pos := "law.go:63", after := #[{ on := 7, ground := Ground.data }], guard := none }) (v := ?vaa8) rfl (by kernel_rfl) (by kernel_rfl) (by kernel_rfl) (fun _ _ _ h => h) (Or.inl ⟨by rfl, ?hyaa8⟩) hHeld ?_
        case hyaa8 => (intro w hSw; (try dsimp only at hSw); go_simp; (try with_reducible rfl))
        try simp only [Act.put, List.setIfInBounds_toArray, List.set_cons_zero, List.set_cons_succ]
        refine wpAnyH_take (i := 9) (oi := { dst := some 146, op := Op.fieldAddr 47 (Operand.tmp 11) 2, type := 0, pos := "law.go:63", after := #[], guard := none }) (v := ?vaa9) rfl (by kernel_rfl) (by kernel_rfl) (by kernel_rfl) (fun _ _ _ h => h) (Or.inl ⟨by rfl, ?hyaa9⟩) hHeld ?_
        case hyaa9 => (intro w hSw; (try dsimp only at hSw); go_simp; (try with_reducible rfl))
        try simp only [Act.put, List.setIfInBounds_toArray, List.set_cons_zero, List.set_cons_succ]
        refine wpAnyH_take (i := 10) (oi := { dst := some 147, op := Op.load 37 (Operand.tmp 146), type := 37, pos := "law.go:63", after := #[{ on := 9, ground := Ground.data }], guard := none }) (v := ?vaa10) rfl (by kernel_rfl) (by kernel_rfl) (by kernel_rfl) (fun _ _ _ h => h) (Or.inl ⟨by rfl, ?hyaa10⟩) hHeld ?_
        case hyaa10 => (intro w hSw; (try dsimp only at hSw); go_simp; (try with_reducible rfl))
        try simp only [Act.put, List.setIfInBounds_toArray, List.set_cons_zero, List.set_cons_succ]
        refine wpAnyH_ready (rs := [5]) (by kernel_rfl) (by simp) ?_
        refine AllReadyH.cons (o := { dst := some 142, op := Op.call { callee := Callee.value (Operand.func 18), args := #[Operand.tmp 137, Operand.tmp 139, Operand.tmp 141], argTypes := #[28, 3, 37] }, type := 37, pos := "law.go:63", after := #[{ on := 0, ground := Ground.data }, { on := 2, ground := Ground.data }, { on := 4, ground := Ground.data }], guard := none }) rfl (fun K hK => ?_) AllReadyH.nil
        go_simp
        refine (HH.out _ HB1.out).mono ?_
        rintro e V2 ⟨rfl, hb, hs⟩
        have HB2 := Lib.hid hb
        have HA2 := Lib.hid (HA1.out.other (hs.block _ (lt_of_cell HA1.out.1) HN.out))
        clear hb hs hHeld HB1 HA1 HH a0 a1 a2' a3
        obtain ⟨a0, a1, a2', a3⟩ := HA2.out
        refine hK.out _ _ ?_ (fun hHeld => ?_)
        · exact ⟨a1, a2'⟩
        clear hK K
        try simp only [Act.put, List.setIfInBounds_toArray, List.set_cons_zero, List.set_cons_succ]
        refine wpAnyH_ready (rs := [11]) (by kernel_rfl) (by simp) ?_
        refine AllReadyH.cons (o := { dst := some 148, op := Op.call { callee := Callee.value (Operand.func 19), args := #[Operand.tmp 143, Operand.tmp 145, Operand.tmp 147], argTypes := #[42, 3, 37] }, type := 37, pos := "law.go:63", after := #[{ on := 6, ground := Ground.data }, { on := 8, ground := Ground.data }, { on := 10, ground := Ground.data }, { on := 5, ground := Ground.chain }], guard := none }) rfl (fun K hK => ?_) AllReadyH.nil
        go_simp
        refine (HR.out _ HB2.out).mono ?_
        rintro e V3 ⟨rfl, hb, hs⟩
        have HB3 := Lib.hid hb
        have HA3 := Lib.hid (HA2.out.other (hs.block _ (lt_of_cell HA2.out.1) HN.out))
        clear hb hs hHeld HB2 HA2 HR a0 a1 a2' a3
        obtain ⟨a0, a1, a2', a3⟩ := HA3.out
        refine hK.out _ _ ?_ (fun hHeld => ?_)
        · exact ⟨a1, a2'⟩
        clear hK K
        try simp only [Act.put, List.setIfInBounds_toArray, List.set_cons_zero, List.set_cons_succ]
        refine wpAnyH_take (i := 12) (oi := { dst := some 149, op := Op.binOp BinOp.eql 37 (Operand.tmp 142) (Operand.tmp 148) 37, type := 4, pos := "law.go:63", after := #[{ on := 5, ground := Ground.data }, { on := 11, ground := Ground.data }], guard := none }) (v := ?vaa12) rfl (by kernel_rfl) (by kernel_rfl) (by kernel_rfl) (fun _ _ _ h => h) (Or.inl ⟨by rfl, ?hyaa12⟩) hHeld ?_
        case hyaa12 => (intro w hSw; (try dsimp only at hSw); go_simp; (try with_reducible rfl))
        try simp only [Act.put, List.setIfInBounds_toArray, List.set_cons_zero, List.set_cons_succ]
        refine wpAnyH_take (i := 13) (oi := { dst := some 12, op := Op.assign (Operand.tmp 149), type := 4, pos := "law.go:63", after := #[{ on := 12, ground := Ground.data }, { on := 11, ground := Ground.chain }, { on := 0, ground := Ground.phase }, { on := 1, ground := Ground.phase }, { on := 2, ground := Ground.phase }, { on := 3, ground := Ground.phase }, { on := 4, ground := Ground.phase }, { on := 5, ground := Ground.phase }, { on := 6, ground := Ground.phase }, { on := 7, ground := Ground.phase }, { on := 8, ground := Ground.phase }, { on := 9, ground := Ground.phase }, { on := 10, ground := Ground.phase }, { on := 11, ground := Ground.phase }, { on := 12, ground := Ground.phase }], guard := none }) (v := ?vaa13) rfl (by kernel_rfl) (by kernel_rfl) (by kernel_rfl) (fun _ _ _ h => h) (Or.inl ⟨by rfl, ?hyaa13⟩) hHeld ?_
        case hyaa13 => (intro w hSw; (try dsimp only at hSw); go_simp; (try with_reducible rfl))
        try simp only [Act.put, List.setIfInBounds_toArray, List.set_cons_zero, List.set_cons_succ]
        refine wpAnyH_done (by kernel_rfl) ?_ _
        clear hHeld a0 a1 a2' a3
        go_wp2_with fail
        have HBd := Lib.hid HB3.out.drew
        clear HB3
        obtain ⟨h0, _, h5, h6, h7, h8, h9, _⟩ := HBd.out.hand.cells
        obtain ⟨r4, _, r5, r6, r7, r8, r9, _⟩ := HBd.out.ref.cells
        refine wp_region_held_drew (S := (fun w' => w'.cell? ⟨H, 0, none⟩ = some (.pointer (some ⟨A, 0, none⟩)) ∧ w'.cell? ⟨H, 5, none⟩ = some (.int .i64 k') ∧ w'.cell? ⟨H, 6, none⟩ = some (.int .i64 i') ∧ w'.cell? ⟨H, 7, none⟩ = some (.int .u64 x') ∧ w'.cell? ⟨H, 8, none⟩ = some (.int .u64 y') ∧ w'.cell? ⟨H, 9, none⟩ = some (.int .u64 o') ∧ w'.cell? ⟨X, 4, none⟩ = some (.slice va n cap) ∧ w'.cell? ⟨X, 5, none⟩ = some (.int .i64 k') ∧ w'.cell? ⟨X, 6, none⟩ = some (.int .i64 i') ∧ w'.cell? ⟨X, 7, none⟩ = some (.int .u64 x') ∧ w'.cell? ⟨X, 8, none⟩ = some (.int .u64 y') ∧ w'.cell? ⟨X, 9, none⟩ = some (.int .u64 o'))) (by kernel_rfl) ?_ (fun hHeld => ?_)
        · exact ⟨h0, h5, h6, h7, h8, h9, r4, r5, r6, r7, r8, r9⟩
        refine wpAnyH_take (i := 0) (oi := { dst := some 150, op := Op.move (Operand.tmp 12), type := 4, pos := "law.go:68", after := #[], guard := none }) (v := ?vab0) rfl (by kernel_rfl) (by kernel_rfl) (by kernel_rfl) (fun _ _ _ h => h) (Or.inl ⟨by rfl, ?hyab0⟩) hHeld ?_
        case hyab0 => (intro w hSw; (try dsimp only at hSw); go_simp; (try with_reducible rfl))
        try simp only [Act.put, List.setIfInBounds_toArray, List.set_cons_zero, List.set_cons_succ]
        refine wpAnyH_take (i := 1) (oi := { dst := some 151, op := Op.unOp UnOp.not 4 (Operand.tmp 150), type := 4, pos := "law.go:68", after := #[{ on := 0, ground := Ground.data }], guard := none }) (v := ?vab1) rfl (by kernel_rfl) (by kernel_rfl) (by kernel_rfl) (fun _ _ _ h => h) (Or.inl ⟨by rfl, ?hyab1⟩) hHeld ?_
        case hyab1 => (intro w hSw; (try dsimp only at hSw); go_simp; (try with_reducible rfl))
        try simp only [Act.put, List.setIfInBounds_toArray, List.set_cons_zero, List.set_cons_succ]
        refine wpAnyH_take (i := 2) (oi := { dst := some 152, op := Op.move (Operand.tmp 151), type := 4, pos := "law.go:68", after := #[{ on := 1, ground := Ground.data }], guard := none }) (v := ?vab2) rfl (by kernel_rfl) (by kernel_rfl) (by kernel_rfl) (fun _ _ _ h => h) (Or.inl ⟨by rfl, ?hyab2⟩) hHeld ?_
        case hyab2 => (intro w hSw; (try dsimp only at hSw); go_simp; (try with_reducible rfl))
        try simp only [Act.put, List.setIfInBounds_toArray, List.set_cons_zero, List.set_cons_succ]
        refine wpAnyH_take (i := 3) (oi := { dst := some 153, op := Op.move (Operand.tmp 7), type := 28, pos := "law.go:68", after := #[{ on := 2, ground := Ground.guard }], guard := some (2, false) }) (v := ?vab3) rfl (by kernel_rfl) (by kernel_rfl) (by kernel_rfl) (fun _ _ _ h => h) (Or.inl ⟨by rfl, ?hyab3⟩) hHeld ?_
        case hyab3 => (intro w hSw; (try dsimp only at hSw); go_simp; (try with_reducible rfl))
        try simp only [Act.put, List.setIfInBounds_toArray, List.set_cons_zero, List.set_cons_succ]
        refine wpAnyH_take (i := 4) (oi := { dst := some 154, op := Op.nilCheck (Operand.tmp 153), type := 0, pos := "law.go:68", after := #[{ on := 3, ground := Ground.data }, { on := 2, ground := Ground.guard }], guard := some (2, false) }) (v := ?vab4) rfl (by kernel_rfl) (by kernel_rfl) (by kernel_rfl) (fun _ _ _ h => h) (Or.inl ⟨by rfl, ?hyab4⟩) hHeld ?_
        case hyab4 => (intro w hSw; (try dsimp only at hSw); go_simp; (try with_reducible rfl))
        try simp only [Act.put, List.setIfInBounds_toArray, List.set_cons_zero, List.set_cons_succ]
        refine wpAnyH_take (i := 5) (oi := { dst := some 155, op := Op.fieldAddr 41 (Operand.tmp 154) 2, type := 0, pos := "law.go:68", after := #[{ on := 4, ground := Ground.data }, { on := 2, ground := Ground.guard }], guard := some (2, false) }) (v := ?vab5) rfl (by kernel_rfl) (by kernel_rfl) (by kernel_rfl) (fun _ _ _ h => h) (Or.inl ⟨by rfl, ?hyab5⟩) hHeld ?_
        case hyab5 => (intro w hSw; (try dsimp only at hSw); go_simp; (try with_reducible rfl))
        try simp only [Act.put, List.setIfInBounds_toArray, List.set_cons_zero, List.set_cons_succ]
        refine wpAnyH_take (i := 6) (oi := { dst := some 156, op := Op.load 39 (Operand.tmp 155), type := 39, pos := "law.go:68", after := #[{ on := 5, ground := Ground.data }, { on := 2, ground := Ground.guard }], guard := some (2, false) }) (v := ?vab6) rfl (by kernel_rfl) (by kernel_rfl) (by kernel_rfl) (fun _ _ _ h => h) (Or.inl ⟨by rfl, ?hyab6⟩) hHeld ?_
        case hyab6 => (intro w hSw; (try dsimp only at hSw); go_simp; (try with_reducible rfl))
        try simp only [Act.put, List.setIfInBounds_toArray, List.set_cons_zero, List.set_cons_succ]
        refine wpAnyH_take (i := 7) (oi := { dst := some 157, op := Op.move (Operand.tmp 9), type := 42, pos := "law.go:68", after := #[{ on := 2, ground := Ground.guard }], guard := some (2, false) }) (v := ?vab7) rfl (by kernel_rfl) (by kernel_rfl) (by kernel_rfl) (fun _ _ _ h => h) (Or.inl ⟨by rfl, ?hyab7⟩) hHeld ?_
        case hyab7 => (intro w hSw; (try dsimp only at hSw); go_simp; (try with_reducible rfl))
        try simp only [Act.put, List.setIfInBounds_toArray, List.set_cons_zero, List.set_cons_succ]
        refine wpAnyH_take (i := 8) (oi := { dst := some 158, op := Op.nilCheck (Operand.tmp 157), type := 0, pos := "law.go:68", after := #[{ on := 7, ground := Ground.data }, { on := 2, ground := Ground.guard }], guard := some (2, false) }) (v := ?vab8) rfl (by kernel_rfl) (by kernel_rfl) (by kernel_rfl) (fun _ _ _ h => h) (Or.inl ⟨by rfl, ?hyab8⟩) hHeld ?_
        case hyab8 => (intro w hSw; (try dsimp only at hSw); go_simp; (try with_reducible rfl))
        try simp only [Act.put, List.setIfInBounds_toArray, List.set_cons_zero, List.set_cons_succ]
        refine wpAnyH_take (i := 9) (oi := { dst := some 159, op := Op.fieldAddr 45 (Operand.tmp 158) 2, type := 0, pos := "law.go:68", after := #[{ on := 8, ground := Ground.data }, { on := 2, ground := Ground.guard }], guard := some (2, false) }) (v := ?vab9) rfl (by kernel_rfl) (by kernel_rfl) (by kernel_rfl) (fun _ _ _ h => h) (Or.inl ⟨by rfl, ?hyab9⟩) hHeld ?_
        case hyab9 => (intro w hSw; (try dsimp only at hSw); go_simp; (try with_reducible rfl))
        try simp only [Act.put, List.setIfInBounds_toArray, List.set_cons_zero, List.set_cons_succ]
        refine wpAnyH_take (i := 10) (oi := { dst := some 160, op := Op.load 39 (Operand.tmp 159), type := 39, pos := "law.go:68", after := #[{ on := 9, ground := Ground.data }, { on := 2, ground := Ground.guard }], guard := some (2, false) }) (v := ?vab10) rfl (by kernel_rfl) (by kernel_rfl) (by kernel_rfl) (fun _ _ _ h => h) (Or.inl ⟨by rfl, ?hyab10⟩) hHeld ?_
        case hyab10 => (intro w hSw; (try dsimp only at hSw); go_simp; (try with_reducible rfl))
        try simp only [Act.put, List.setIfInBounds_toArray, List.set_cons_zero, List.set_cons_succ]
        refine wpAnyH_take (i := 11) (oi := { dst := some 161, op := Op.binOp BinOp.neq 39 (Operand.tmp 156) (Operand.tmp 160) 39, type := 4, pos := "law.go:68", after := #[{ on := 6, ground := Ground.data }, { on := 10, ground := Ground.data }, { on := 2, ground := Ground.guard }], guard := some (2, false) }) (v := ?vab11) rfl (by kernel_rfl) (by kernel_rfl) (by kernel_rfl) (fun _ _ _ h => h) (Or.inl ⟨by rfl, ?hyab11⟩) hHeld ?_
        case hyab11 => (intro w hSw; (try dsimp only at hSw); go_simp; (try with_reducible rfl))
        try simp only [Act.put, List.setIfInBounds_toArray, List.set_cons_zero, List.set_cons_succ]
        refine wpAnyH_take (i := 12) (oi := { dst := some 162, op := Op.pick (Operand.tmp 152) (Operand.const (Value.bool true)) (Operand.tmp 161), type := 4, pos := "law.go:68", after := #[{ on := 2, ground := Ground.data }, { on := 11, ground := Ground.data }], guard := none }) (v := ?vab12) rfl (by kernel_rfl) (by kernel_rfl) (by kernel_rfl) (fun _ _ _ h => h) (Or.inl ⟨by rfl, ?hyab12⟩) hHeld ?_
        case hyab12 => (intro w hSw; (try dsimp only at hSw); go_simp; (try with_reducible rfl))
        try simp only [Act.put, List.setIfInBounds_toArray, List.set_cons_zero, List.set_cons_succ]
        refine wpAnyH_take (i := 13) (oi := { dst := some 163, op := Op.move (Operand.tmp 162), type := 4, pos := "law.go:68", after := #[{ on := 12, ground := Ground.data }, { on := 2, ground := Ground.chain }], guard := none }) (v := ?vab13) rfl (by kernel_rfl) (by kernel_rfl) (by kernel_rfl) (fun _ _ _ h => h) (Or.inl ⟨by rfl, ?hyab13⟩) hHeld ?_
        case hyab13 => (intro w hSw; (try dsimp only at hSw); go_simp; (try with_reducible rfl))
        try simp only [Act.put, List.setIfInBounds_toArray, List.set_cons_zero, List.set_cons_succ]
        refine wpAnyH_take (i := 14) (oi := { dst := some 164, op := Op.move (Operand.tmp 7), type := 28, pos := "law.go:68", after := #[{ on := 13, ground := Ground.guard }], guard := some (13, false) }) (v := ?vab14) rfl (by kernel_rfl) (by kernel_rfl) (by kernel_rfl) (fun _ _ _ h => h) (Or.inl ⟨by rfl, ?hyab14⟩) hHeld ?_
        case hyab14 => (intro w hSw; (try dsimp only at hSw); go_simp; (try with_reducible rfl))
        try simp only [Act.put, List.setIfInBounds_toArray, List.set_cons_zero, List.set_cons_succ]
        refine wpAnyH_take (i := 15) (oi := { dst := some 165, op := Op.nilCheck (Operand.tmp 164), type := 0, pos := "law.go:68", after := #[{ on := 14, ground := Ground.data }, { on := 13, ground := Ground.guard }], guard := some (13, false) }) (v := ?vab15) rfl (by kernel_rfl) (by kernel_rfl) (by kernel_rfl) (fun _ _ _ h => h) (Or.inl ⟨by rfl, ?hyab15⟩) hHeld ?_
        case hyab15 => (intro w hSw; (try dsimp only at hSw); go_simp; (try with_reducible rfl))
        try simp only [Act.put, List.setIfInBounds_toArray, List.set_cons_zero, List.set_cons_succ]
        refine wpAnyH_take (i := 16) (oi := { dst := some 166, op := Op.fieldAddr 41 (Operand.tmp 165) 0, type := 0, pos := "law.go:68", after := #[{ on := 15, ground := Ground.data }, { on := 13, ground := Ground.guard }], guard := some (13, false) }) (v := ?vab16) rfl (by kernel_rfl) (by kernel_rfl) (by kernel_rfl) (fun _ _ _ h => h) (Or.inl ⟨by rfl, ?hyab16⟩) hHeld ?_
        case hyab16 => (intro w hSw; (try dsimp only at hSw); go_simp; (try with_reducible rfl))
        try simp only [Act.put, List.setIfInBounds_toArray, List.set_cons_zero, List.set_cons_succ]
        refine wpAnyH_take (i := 17) (oi := { dst := some 167, op := Op.load 33 (Operand.tmp 166), type := 33, pos := "law.go:68", after := #[{ on := 16, ground := Ground.data }, { on := 13, ground := Ground.guard }], guard := some (13, false) }) (v := ?vab17) rfl (by kernel_rfl) (by kernel_rfl) (by kernel_rfl) (fun _ _ _ h => h) (Or.inl ⟨by rfl, ?hyab17⟩) hHeld ?_
        case hyab17 => (intro w hSw; (try dsimp only at hSw); go_simp; (try with_reducible rfl))
        try simp only [Act.put, List.setIfInBounds_toArray, List.set_cons_zero, List.set_cons_succ]
        refine wpAnyH_take (i := 19) (oi := { dst := some 169, op := Op.move (Operand.tmp 9), type := 42, pos := "law.go:68", after := #[{ on := 13, ground := Ground.guard }], guard := some (13, false) }) (v := ?vab19) rfl (by kernel_rfl) (by kernel_rfl) (by kernel_rfl) (fun _ _ _ h => h) (Or.inl ⟨by rfl, ?hyab19⟩) hHeld ?_
        case hyab19 => (intro w hSw; (try dsimp only at hSw); go_simp; (try with_reducible rfl))
        try simp only [Act.put, List.setIfInBounds_toArray, List.set_cons_zero, List.set_cons_succ]
        refine wpAnyH_take (i := 20) (oi := { dst := some 170, op := Op.nilCheck (Operand.tmp 169), type := 0, pos := "law.go:68", after := #[{ on := 19, ground := Ground.data }, { on := 13, ground := Ground.guard }], guard := some (13, false) }) (v := ?vab20) rfl (by kernel_rfl) (by kernel_rfl) (by kernel_rfl) (fun _ _ _ h => h) (Or.inl ⟨by rfl, ?hyab20⟩) hHeld ?_
        case hyab20 => (intro w hSw; (try dsimp only at hSw); go_simp; (try with_reducible rfl))
        try simp only [Act.put, List.setIfInBounds_toArray, List.set_cons_zero, List.set_cons_succ]
        refine wpAnyH_take (i := 21) (oi := { dst := some 171, op := Op.fieldAddr 45 (Operand.tmp 170) 1, type := 0, pos := "law.go:68", after := #[{ on := 20, ground := Ground.data }, { on := 13, ground := Ground.guard }], guard := some (13, false) }) (v := ?vab21) rfl (by kernel_rfl) (by kernel_rfl) (by kernel_rfl) (fun _ _ _ h => h) (Or.inl ⟨by rfl, ?hyab21⟩) hHeld ?_
        case hyab21 => (intro w hSw; (try dsimp only at hSw); go_simp; (try with_reducible rfl))
        try simp only [Act.put, List.setIfInBounds_toArray, List.set_cons_zero, List.set_cons_succ]
        refine wpAnyH_take (i := 22) (oi := { dst := some 172, op := Op.load 24 (Operand.tmp 171), type := 24, pos := "law.go:68", after := #[{ on := 21, ground := Ground.data }, { on := 13, ground := Ground.guard }], guard := some (13, false) }) (v := ?vab22) rfl (by kernel_rfl) (by kernel_rfl) (by kernel_rfl) (fun _ _ _ h => h) (Or.inl ⟨by rfl, ?hyab22⟩) hHeld ?_
        case hyab22 => (intro w hSw; (try dsimp only at hSw); go_simp; (try with_reducible rfl))
        try simp only [Act.put, List.setIfInBounds_toArray, List.set_cons_zero, List.set_cons_succ]
        refine wpAnyH_ready (rs := [18]) (by kernel_rfl) (by simp) ?_
        refine AllReadyH.cons (o := { dst := some 168, op := Op.call { callee := Callee.value (Operand.func 22), args := #[Operand.tmp 167], argTypes := #[33] }, type := 24, pos := "law.go:68", after := #[{ on := 17, ground := Ground.data }, { on := 13, ground := Ground.chain }, { on := 13, ground := Ground.guard }], guard := some (13, false) }) rfl (fun K hK => ?_) AllReadyH.nil
        go_simp
        refine (All_c HBd.out.hand.ar hn20).mono ?_
        rintro e U1 ⟨rfl, hrow, hV⟩
        have HBe := Lib.hid (HBd.out.below hV)
        have HW := Lib.hid hrow.words
        clear hrow hV hHeld HBd
        clear h0 h5 h6 h7 h8 h9 r4 r5 r6 r7 r8 r9
        obtain ⟨h0, _, h5, h6, h7, h8, h9, _⟩ := HBe.out.hand.cells
        obtain ⟨r4, _, r5, r6, r7, r8, r9, _⟩ := HBe.out.ref.cells
        refine hK.out _ _ ?_ (fun hHeld => ?_)
        · exact ⟨h0, h5, h6, h7, h8, h9, r4, r5, r6, r7, r8, r9⟩
        clear hK K
        try simp only [Act.put, List.setIfInBounds_toArray, List.set_cons_zero, List.set_cons_succ]
        refine wpAnyH_ready (rs := [23]) (by kernel_rfl) (by simp) ?_
        refine AllReadyH.cons (o := { dst := some 173, op := Op.call { callee := Callee.value (Operand.func 21), args := #[Operand.tmp 168, Operand.tmp 172], argTypes := #[24, 24] }, type := 4, pos := "law.go:68", after := #[{ on := 18, ground := Ground.data }, { on := 22, ground := Ground.data }, { on := 18, ground := Ground.chain }, { on := 13, ground := Ground.guard }], guard := some (13, false) }) rfl (fun K hK => ?_) AllReadyH.nil
        go_simp
        refine (Same_c _ va n n cap f' hn20 _ HW.out HBe.out.ref.mine.words).mono ?_
        rintro e U2 ⟨rfl, hV⟩
        have HBf := Lib.hid (HBe.out.below hV)
        clear hV hHeld HBe HW
        clear h0 h5 h6 h7 h8 h9 r4 r5 r6 r7 r8 r9
        obtain ⟨h0, _, h5, h6, h7, h8, h9, _⟩ := HBf.out.hand.cells
        obtain ⟨r4, _, r5, r6, r7, r8, r9, _⟩ := HBf.out.ref.cells
        refine hK.out _ _ ?_ (fun hHeld => ?_)
        · exact ⟨h0, h5, h6, h7, h8, h9, r4, r5, r6, r7, r8, r9⟩
        clear hK K
        try simp only [Act.put, List.setIfInBounds_toArray, List.set_cons_zero, List.set_cons_succ]
        refine wpAnyH_take (i := 24) (oi := { dst := some 174, op := Op.unOp UnOp.not 4 (Operand.tmp 173), type := 4, pos := "law.go:68", after := #[{ on := 23, ground := Ground.data }, { on := 13, ground := Ground.guard }], guard := some (13, false) }) (v := ?vab24) rfl (by kernel_rfl) (by kernel_rfl) (by kernel_rfl) (fun _ _ _ h => h) (Or.inl ⟨by rfl, ?hyab24⟩) hHeld ?_
        case hyab24 => (intro w hSw; (try dsimp only at hSw); go_simp; (try with_reducible rfl))
        try simp only [Act.put, List.setIfInBounds_toArray, List.set_cons_zero, List.set_cons_succ]
        refine wpAnyH_take (i := 25) (oi := { dst := some 175, op := Op.pick (Operand.tmp 163) (Operand.const (Value.bool true)) (Operand.tmp 174), type := 4, pos := "law.go:68", after := #[{ on := 13, ground := Ground.data }, { on := 24, ground := Ground.data }], guard := none }) (v := ?vab25) rfl (by kernel_rfl) (by kernel_rfl) (by kernel_rfl) (fun _ _ _ h => h) (Or.inl ⟨by rfl, ?hyab25⟩) hHeld ?_
        case hyab25 => (intro w hSw; (try dsimp only at hSw); go_simp; (try with_reducible rfl))
        try simp only [Act.put, List.setIfInBounds_toArray, List.set_cons_zero, List.set_cons_succ]
        refine wpAnyH_done (by kernel_rfl) ?_ _
        clear hHeld
        clear h0 h5 h6 h7 h8 h9 r4 r5 r6 r7 r8 r9
        go_wp2_with fail
        go_roundw
        case rel => exact ⟨k + 1, by go_num, by omega, Lib.hid ⟨f', k', i', x', y', o', HBf.out, HU.out⟩⟩
        case measure => simp [intOf]; omega
      have k1 : (K == 1) = false := by rw [beq_eq_false_iff_ne]; exact e1
      have k2 : (K == 2) = false := by rw [beq_eq_false_iff_ne]; exact e2
      have k3 : (K == 3) = false := by rw [beq_eq_false_iff_ne]; exact e3
      have k4 : (K == 4) = false := by rw [beq_eq_false_iff_ne]; exact e4
      clear e1 e2 e3 e4
      have HH := Lib.hid (hClear_c HB0.out.hand)
      have HU := Lib.hid hu
      clear hu hx hy
      go_wp2_with fail
      refine HH.out.mono ?_
      rintro e V1 ⟨rfl, hF, hs⟩
      have HB1 := Lib.hid (HB0.out.act hs hF)
      clear hF hs HB0 HA0 HH a0 a1 a2' a3
      obtain ⟨r4, _, r5, r6, r7, r8, r9, rf⟩ := HB1.out.ref.cells
      have HB3 := Lib.hid (HB1.out.doc ((Sav.of (Below.refl _ V1)).putH (C := X) (.inl (.inl rfl)) 0 0 0 0 0) (HB1.out.ref.note 0 0 0 0 0))
      clear HB1
      go_wp2_with fail
      clear r4 r5 r6 r7 r8 r9 rf
      unfold putH at HB3
      generalize ((((V1.setCell ⟨X, 5, none⟩ (.int .i64 0)).setCell ⟨X, 6, none⟩ (.int .i64 0)).setCell ⟨X, 7, none⟩ (.int .u64 0)).setCell ⟨X, 8, none⟩ (.int .u64 0)).setCell ⟨X, 9, none⟩ (.int .u64 0) = V2 at *
      obtain ⟨f', k', i', x', y', o', hz, hzu⟩ : ∃ f' k' i' x' y' o', Both w V2 H A G X va n cap N a b c d f' k' i' x' y' o' f' k' i' x' y' o' ∧ ∀ j, U64 (f' j) := ⟨f, 0, 0, 0, 0, 0, HB3.out, HU.out⟩
      clear HB3 HU
      have HB3 := Lib.hid hz
      have HU := Lib.hid hzu
      clear hz hzu
      have HBd := Lib.hid HB3.out.drew
      clear HB3
      obtain ⟨h0, _, h5, h6, h7, h8, h9, _⟩ := HBd.out.hand.cells
      obtain ⟨r4, _, r5, r6, r7, r8, r9, _⟩ := HBd.out.ref.cells
      refine wp_region_held_drew (S := (fun w' => w'.cell? ⟨H, 0, none⟩ = some (.pointer (some ⟨A, 0, none⟩)) ∧ w'.cell? ⟨H, 5, none⟩ = some (.int .i64 k') ∧ w'.cell? ⟨H, 6, none⟩ = some (.int .i64 i') ∧ w'.cell? ⟨H, 7, none⟩ = some (.int .u64 x') ∧ w'.cell? ⟨H, 8, none⟩ = some (.int .u64 y') ∧ w'.cell? ⟨H, 9, none⟩ = some (.int .u64 o') ∧ w'.cell? ⟨X, 4, none⟩ = some (.slice va n cap) ∧ w'.cell? ⟨X, 5, none⟩ = some (.int .i64 k') ∧ w'.cell? ⟨X, 6, none⟩ = some (.int .i64 i') ∧ w'.cell? ⟨X, 7, none⟩ = some (.int .u64 x') ∧ w'.cell? ⟨X, 8, none⟩ = some (.int .u64 y') ∧ w'.cell? ⟨X, 9, none⟩ = some (.int .u64 o'))) (by kernel_rfl) ?_ (fun hHeld => ?_)
      · exact ⟨h0, h5, h6, h7, h8, h9, r4, r5, r6, r7, r8, r9⟩
      refine wpAnyH_take (i := 0) (oi := { dst := some 150, op := Op.move (Operand.tmp 12), type := 4, pos := "law.go:68", after := #[], guard := none }) (v := ?vdb0) rfl (by kernel_rfl) (by kernel_rfl) (by kernel_rfl) (fun _ _ _ h => h) (Or.inl ⟨by rfl, ?hydb0⟩) hHeld ?_
      case hydb0 => (intro w hSw; (try dsimp only at hSw); go_simp; (try with_reducible rfl))
      try simp only [Act.put, List.setIfInBounds_toArray, List.set_cons_zero, List.set_cons_succ]
      refine wpAnyH_take (i := 1) (oi := { dst := some 151, op := Op.unOp UnOp.not 4 (Operand.tmp 150), type := 4, pos := "law.go:68", after := #[{ on := 0, ground := Ground.data }], guard := none }) (v := ?vdb1) rfl (by kernel_rfl) (by kernel_rfl) (by kernel_rfl) (fun _ _ _ h => h) (Or.inl ⟨by rfl, ?hydb1⟩) hHeld ?_
      case hydb1 => (intro w hSw; (try dsimp only at hSw); go_simp; (try with_reducible rfl))
      try simp only [Act.put, List.setIfInBounds_toArray, List.set_cons_zero, List.set_cons_succ]
      refine wpAnyH_take (i := 2) (oi := { dst := some 152, op := Op.move (Operand.tmp 151), type := 4, pos := "law.go:68", after := #[{ on := 1, ground := Ground.data }], guard := none }) (v := ?vdb2) rfl (by kernel_rfl) (by kernel_rfl) (by kernel_rfl) (fun _ _ _ h => h) (Or.inl ⟨by rfl, ?hydb2⟩) hHeld ?_
      case hydb2 => (intro w hSw; (try dsimp only at hSw); go_simp; (try with_reducible rfl))
      try simp only [Act.put, List.setIfInBounds_toArray, List.set_cons_zero, List.set_cons_succ]
      refine wpAnyH_take (i := 3) (oi := { dst := some 153, op := Op.move (Operand.tmp 7), type := 28, pos := "law.go:68", after := #[{ on := 2, ground := Ground.guard }], guard := some (2, false) }) (v := ?vdb3) rfl (by kernel_rfl) (by kernel_rfl) (by kernel_rfl) (fun _ _ _ h => h) (Or.inl ⟨by rfl, ?hydb3⟩) hHeld ?_
      case hydb3 => (intro w hSw; (try dsimp only at hSw); go_simp; (try with_reducible rfl))
      try simp only [Act.put, List.setIfInBounds_toArray, List.set_cons_zero, List.set_cons_succ]
      refine wpAnyH_take (i := 4) (oi := { dst := some 154, op := Op.nilCheck (Operand.tmp 153), type := 0, pos := "law.go:68", after := #[{ on := 3, ground := Ground.data }, { on := 2, ground := Ground.guard }], guard := some (2, false) }) (v := ?vdb4) rfl (by kernel_rfl) (by kernel_rfl) (by kernel_rfl) (fun _ _ _ h => h) (Or.inl ⟨by rfl, ?hydb4⟩) hHeld ?_
      case hydb4 => (intro w hSw; (try dsimp only at hSw); go_simp; (try with_reducible rfl))
      try simp only [Act.put, List.setIfInBounds_toArray, List.set_cons_zero, List.set_cons_succ]
      refine wpAnyH_take (i := 5) (oi := { dst := some 155, op := Op.fieldAddr 41 (Operand.tmp 154) 2, type := 0, pos := "law.go:68", after := #[{ on := 4, ground := Ground.data }, { on := 2, ground := Ground.guard }], guard := some (2, false) }) (v := ?vdb5) rfl (by kernel_rfl) (by kernel_rfl) (by kernel_rfl) (fun _ _ _ h => h) (Or.inl ⟨by rfl, ?hydb5⟩) hHeld ?_
      case hydb5 => (intro w hSw; (try dsimp only at hSw); go_simp; (try with_reducible rfl))
      try simp only [Act.put, List.setIfInBounds_toArray, List.set_cons_zero, List.set_cons_succ]
      refine wpAnyH_take (i := 6) (oi := { dst := some 156, op := Op.load 39 (Operand.tmp 155), type := 39, pos := "law.go:68", after := #[{ on := 5, ground := Ground.data }, { on := 2, ground := Ground.guard }], guard := some (2, false) }) (v := ?vdb6) rfl (by kernel_rfl) (by kernel_rfl) (by kernel_rfl) (fun _ _ _ h => h) (Or.inl ⟨by rfl, ?hydb6⟩) hHeld ?_
      case hydb6 => (intro w hSw; (try dsimp only at hSw); go_simp; (try with_reducible rfl))
      try simp only [Act.put, List.setIfInBounds_toArray, List.set_cons_zero, List.set_cons_succ]
      refine wpAnyH_take (i := 7) (oi := { dst := some 157, op := Op.move (Operand.tmp 9), type := 42, pos := "law.go:68", after := #[{ on := 2, ground := Ground.guard }], guard := some (2, false) }) (v := ?vdb7) rfl (by kernel_rfl) (by kernel_rfl) (by kernel_rfl) (fun _ _ _ h => h) (Or.inl ⟨by rfl, ?hydb7⟩) hHeld ?_
      case hydb7 => (intro w hSw; (try dsimp only at hSw); go_simp; (try with_reducible rfl))
      try simp only [Act.put, List.setIfInBounds_toArray, List.set_cons_zero, List.set_cons_succ]
      refine wpAnyH_take (i := 8) (oi := { dst := some 158, op := Op.nilCheck (Operand.tmp 157), type := 0, pos := "law.go:68", after := #[{ on := 7, ground := Ground.data }, { on := 2, ground := Ground.guard }], guard := some (2, false) }) (v := ?vdb8) rfl (by kernel_rfl) (by kernel_rfl) (by kernel_rfl) (fun _ _ _ h => h) (Or.inl ⟨by rfl, ?hydb8⟩) hHeld ?_
      case hydb8 => (intro w hSw; (try dsimp only at hSw); go_simp; (try with_reducible rfl))
      try simp only [Act.put, List.setIfInBounds_toArray, List.set_cons_zero, List.set_cons_succ]
      refine wpAnyH_take (i := 9) (oi := { dst := some 159, op := Op.fieldAddr 45 (Operand.tmp 158) 2, type := 0, pos := "law.go:68", after := #[{ on := 8, ground := Ground.data }, { on := 2, ground := Ground.guard }], guard := some (2, false) }) (v := ?vdb9) rfl (by kernel_rfl) (by kernel_rfl) (by kernel_rfl) (fun _ _ _ h => h) (Or.inl ⟨by rfl, ?hydb9⟩) hHeld ?_
      case hydb9 => (intro w hSw; (try dsimp only at hSw); go_simp; (try with_reducible rfl))
      try simp only [Act.put, List.setIfInBounds_toArray, List.set_cons_zero, List.set_cons_succ]
      refine wpAnyH_take (i := 10) (oi := { dst := some 160, op := Op.load 39 (Operand.tmp 159), type := 39, pos := "law.go:68", after := #[{ on := 9, ground := Ground.data }, { on := 2, ground := Ground.guard }], guard := some (2, false) }) (v := ?vdb10) rfl (by kernel_rfl) (by kernel_rfl) (by kernel_rfl) (fun _ _ _ h => h) (Or.inl ⟨by rfl, ?hydb10⟩) hHeld ?_
      case hydb10 => (intro w hSw; (try dsimp only at hSw); go_simp; (try with_reducible rfl))
      try simp only [Act.put, List.setIfInBounds_toArray, List.set_cons_zero, List.set_cons_succ]
      refine wpAnyH_take (i := 11) (oi := { dst := some 161, op := Op.binOp BinOp.neq 39 (Operand.tmp 156) (Operand.tmp 160) 39, type := 4, pos := "law.go:68", after := #[{ on := 6, ground := Ground.data }, { on := 10, ground := Ground.data }, { on := 2, ground := Ground.guard }], guard := some (2, false) }) (v := ?vdb11) rfl (by kernel_rfl) (by kernel_rfl) (by kernel_rfl) (fun _ _ _ h => h) (Or.inl ⟨by rfl, ?hydb11⟩) hHeld ?_
      case hydb11 => (intro w hSw; (try dsimp only at hSw); go_simp; (try with_reducible rfl))
      try simp only [Act.put, List.setIfInBounds_toArray, List.set_cons_zero, List.set_cons_succ]
      refine wpAnyH_take (i := 12) (oi := { dst := some 162, op := Op.pick (Operand.tmp 152) (Operand.const (Value.bool true)) (Operand.tmp 161), type := 4, pos := "law.go:68", after := #[{ on := 2, ground := Ground.data }, { on := 11, ground := Ground.data }], guard := none }) (v := ?vdb12) rfl (by kernel_rfl) (by kernel_rfl) (by kernel_rfl) (fun _ _ _ h => h) (Or.inl ⟨by rfl, ?hydb12⟩) hHeld ?_
      case hydb12 => (intro w hSw; (try dsimp only at hSw); go_simp; (try with_reducible rfl))
      try simp only [Act.put, List.setIfInBounds_toArray, List.set_cons_zero, List.set_cons_succ]
      refine wpAnyH_take (i := 13) (oi := { dst := some 163, op := Op.move (Operand.tmp 162), type := 4, pos := "law.go:68", after := #[{ on := 12, ground := Ground.data }, { on := 2, ground := Ground.chain }], guard := none }) (v := ?vdb13) rfl (by kernel_rfl) (by kernel_rfl) (by kernel_rfl) (fun _ _ _ h => h) (Or.inl ⟨by rfl, ?hydb13⟩) hHeld ?_
      case hydb13 => (intro w hSw; (try dsimp only at hSw); go_simp; (try with_reducible rfl))
      try simp only [Act.put, List.setIfInBounds_toArray, List.set_cons_zero, List.set_cons_succ]
      refine wpAnyH_take (i := 14) (oi := { dst := some 164, op := Op.move (Operand.tmp 7), type := 28, pos := "law.go:68", after := #[{ on := 13, ground := Ground.guard }], guard := some (13, false) }) (v := ?vdb14) rfl (by kernel_rfl) (by kernel_rfl) (by kernel_rfl) (fun _ _ _ h => h) (Or.inl ⟨by rfl, ?hydb14⟩) hHeld ?_
      case hydb14 => (intro w hSw; (try dsimp only at hSw); go_simp; (try with_reducible rfl))
      try simp only [Act.put, List.setIfInBounds_toArray, List.set_cons_zero, List.set_cons_succ]
      refine wpAnyH_take (i := 15) (oi := { dst := some 165, op := Op.nilCheck (Operand.tmp 164), type := 0, pos := "law.go:68", after := #[{ on := 14, ground := Ground.data }, { on := 13, ground := Ground.guard }], guard := some (13, false) }) (v := ?vdb15) rfl (by kernel_rfl) (by kernel_rfl) (by kernel_rfl) (fun _ _ _ h => h) (Or.inl ⟨by rfl, ?hydb15⟩) hHeld ?_
      case hydb15 => (intro w hSw; (try dsimp only at hSw); go_simp; (try with_reducible rfl))
      try simp only [Act.put, List.setIfInBounds_toArray, List.set_cons_zero, List.set_cons_succ]
      refine wpAnyH_take (i := 16) (oi := { dst := some 166, op := Op.fieldAddr 41 (Operand.tmp 165) 0, type := 0, pos := "law.go:68", after := #[{ on := 15, ground := Ground.data }, { on := 13, ground := Ground.guard }], guard := some (13, false) }) (v := ?vdb16) rfl (by kernel_rfl) (by kernel_rfl) (by kernel_rfl) (fun _ _ _ h => h) (Or.inl ⟨by rfl, ?hydb16⟩) hHeld ?_
      case hydb16 => (intro w hSw; (try dsimp only at hSw); go_simp; (try with_reducible rfl))
      try simp only [Act.put, List.setIfInBounds_toArray, List.set_cons_zero, List.set_cons_succ]
      refine wpAnyH_take (i := 17) (oi := { dst := some 167, op := Op.load 33 (Operand.tmp 166), type := 33, pos := "law.go:68", after := #[{ on := 16, ground := Ground.data }, { on := 13, ground := Ground.guard }], guard := some (13, false) }) (v := ?vdb17) rfl (by kernel_rfl) (by kernel_rfl) (by kernel_rfl) (fun _ _ _ h => h) (Or.inl ⟨by rfl, ?hydb17⟩) hHeld ?_
      case hydb17 => (intro w hSw; (try dsimp only at hSw); go_simp; (try with_reducible rfl))
      try simp only [Act.put, List.setIfInBounds_toArray, List.set_cons_zero, List.set_cons_succ]
      refine wpAnyH_take (i := 19) (oi := { dst := some 169, op := Op.move (Operand.tmp 9), type := 42, pos := "law.go:68", after := #[{ on := 13, ground := Ground.guard }], guard := some (13, false) }) (v := ?vdb19) rfl (by kernel_rfl) (by kernel_rfl) (by kernel_rfl) (fun _ _ _ h => h) (Or.inl ⟨by rfl, ?hydb19⟩) hHeld ?_
      case hydb19 => (intro w hSw; (try dsimp only at hSw); go_simp; (try with_reducible rfl))
      try simp only [Act.put, List.setIfInBounds_toArray, List.set_cons_zero, List.set_cons_succ]
      refine wpAnyH_take (i := 20) (oi := { dst := some 170, op := Op.nilCheck (Operand.tmp 169), type := 0, pos := "law.go:68", after := #[{ on := 19, ground := Ground.data }, { on := 13, ground := Ground.guard }], guard := some (13, false) }) (v := ?vdb20) rfl (by kernel_rfl) (by kernel_rfl) (by kernel_rfl) (fun _ _ _ h => h) (Or.inl ⟨by rfl, ?hydb20⟩) hHeld ?_
      case hydb20 => (intro w hSw; (try dsimp only at hSw); go_simp; (try with_reducible rfl))
      try simp only [Act.put, List.setIfInBounds_toArray, List.set_cons_zero, List.set_cons_succ]
      refine wpAnyH_take (i := 21) (oi := { dst := some 171, op := Op.fieldAddr 45 (Operand.tmp 170) 1, type := 0, pos := "law.go:68", after := #[{ on := 20, ground := Ground.data }, { on := 13, ground := Ground.guard }], guard := some (13, false) }) (v := ?vdb21) rfl (by kernel_rfl) (by kernel_rfl) (by kernel_rfl) (fun _ _ _ h => h) (Or.inl ⟨by rfl, ?hydb21⟩) hHeld ?_
      case hydb21 => (intro w hSw; (try dsimp only at hSw); go_simp; (try with_reducible rfl))
      try simp only [Act.put, List.setIfInBounds_toArray, List.set_cons_zero, List.set_cons_succ]
      refine wpAnyH_take (i := 22) (oi := { dst := some 172, op := Op.load 24 (Operand.tmp 171), type := 24, pos := "law.go:68", after := #[{ on := 21, ground := Ground.data }, { on := 13, ground := Ground.guard }], guard := some (13, false) }) (v := ?vdb22) rfl (by kernel_rfl) (by kernel_rfl) (by kernel_rfl) (fun _ _ _ h => h) (Or.inl ⟨by rfl, ?hydb22⟩) hHeld ?_
      case hydb22 => (intro w hSw; (try dsimp only at hSw); go_simp; (try with_reducible rfl))
      try simp only [Act.put, List.setIfInBounds_toArray, List.set_cons_zero, List.set_cons_succ]
      refine wpAnyH_ready (rs := [18]) (by kernel_rfl) (by simp) ?_
      refine AllReadyH.cons (o := { dst := some 168, op := Op.call { callee := Callee.value (Operand.func 22), args := #[Operand.tmp 167], argTypes := #[33] }, type := 24, pos := "law.go:68", after := #[{ on := 17, ground := Ground.data }, { on := 13, ground := Ground.chain }, { on := 13, ground := Ground.guard }], guard := some (13, false) }) rfl (fun K hK => ?_) AllReadyH.nil
      go_simp
      refine (All_c HBd.out.hand.ar hn20).mono ?_
      rintro e U1 ⟨rfl, hrow, hV⟩
      have HBe := Lib.hid (HBd.out.below hV)
      have HW := Lib.hid hrow.words
      clear hrow hV hHeld HBd
      clear h0 h5 h6 h7 h8 h9 r4 r5 r6 r7 r8 r9
      obtain ⟨h0, _, h5, h6, h7, h8, h9, _⟩ := HBe.out.hand.cells
      obtain ⟨r4, _, r5, r6, r7, r8, r9, _⟩ := HBe.out.ref.cells
      refine hK.out _ _ ?_ (fun hHeld => ?_)
      · exact ⟨h0, h5, h6, h7, h8, h9, r4, r5, r6, r7, r8, r9⟩
      clear hK K
      try simp only [Act.put, List.setIfInBounds_toArray, List.set_cons_zero, List.set_cons_succ]
      refine wpAnyH_ready (rs := [23]) (by kernel_rfl) (by simp) ?_
      refine AllReadyH.cons (o := { dst := some 173, op := Op.call { callee := Callee.value (Operand.func 21), args := #[Operand.tmp 168, Operand.tmp 172], argTypes := #[24, 24] }, type := 4, pos := "law.go:68", after := #[{ on := 18, ground := Ground.data }, { on := 22, ground := Ground.data }, { on := 18, ground := Ground.chain }, { on := 13, ground := Ground.guard }], guard := some (13, false) }) rfl (fun K hK => ?_) AllReadyH.nil
      go_simp
      refine (Same_c _ va n n cap f' hn20 _ HW.out HBe.out.ref.mine.words).mono ?_
      rintro e U2 ⟨rfl, hV⟩
      have HBf := Lib.hid (HBe.out.below hV)
      clear hV hHeld HBe HW
      clear h0 h5 h6 h7 h8 h9 r4 r5 r6 r7 r8 r9
      obtain ⟨h0, _, h5, h6, h7, h8, h9, _⟩ := HBf.out.hand.cells
      obtain ⟨r4, _, r5, r6, r7, r8, r9, _⟩ := HBf.out.ref.cells
      refine hK.out _ _ ?_ (fun hHeld => ?_)
      · exact ⟨h0, h5, h6, h7, h8, h9, r4, r5, r6, r7, r8, r9⟩
      clear hK K
      try simp only [Act.put, List.setIfInBounds_toArray, List.set_cons_zero, List.set_cons_succ]
      refine wpAnyH_take (i := 24) (oi := { dst := some 174, op := Op.unOp UnOp.not 4 (Operand.tmp 173), type := 4, pos := "law.go:68", after := #[{ on := 23, ground := Ground.data }, { on := 13, ground := Ground.guard }], guard := some (13, false) }) (v := ?vdb24) rfl (by kernel_rfl) (by kernel_rfl) (by kernel_rfl) (fun _ _ _ h => h) (Or.inl ⟨by rfl, ?hydb24⟩) hHeld ?_
      case hydb24 => (intro w hSw; (try dsimp only at hSw); go_simp; (try with_reducible rfl))
      try simp only [Act.put, List.setIfInBounds_toArray, List.set_cons_zero, List.set_cons_succ]
      refine wpAnyH_take (i := 25) (oi := { dst := some 175, op := Op.pick (Operand.tmp 163) (Operand.const (Value.bool true)) (Operand.tmp 174), type := 4, pos := "law.go:68", after := #[{ on := 13, ground := Ground.data }, { on := 24, ground := Ground.data }], guard := none }) (v := ?vdb25) rfl (by kernel_rfl) (by kernel_rfl) (by kernel_rfl) (fun _ _ _ h => h) (Or.inl ⟨by rfl, ?hydb25⟩) hHeld ?_
      case hydb25 => (intro w hSw; (try dsimp only at hSw); go_simp; (try with_reducible rfl))
      try simp only [Act.put, List.setIfInBounds_toArray, List.set_cons_zero, List.set_cons_succ]
      refine wpAnyH_done (by kernel_rfl) ?_ _
      clear hHeld
      clear h0 h5 h6 h7 h8 h9 r4 r5 r6 r7 r8 r9
      go_wp2_with fail
      go_roundw
      case rel => exact ⟨k + 1, by go_num, by omega, Lib.hid ⟨f', k', i', x', y', o', HBf.out, HU.out⟩⟩
      case measure => simp [intOf]; omega
    · obtain rfl : k = m := by omega
      have HO := Lib.hid hB.old
      clear hB hu HI HG2
      go_wp2_with fail
      go_ret
      exact ⟨rfl, HO.out⟩
theorem plays_any (a b c d : Int) (v0 : Option Addr) (n c0 : Nat) (f : Nat → Int) (a2 : Option Addr) (m c2 : Nat) (g : Nat → ActN) (w : World) (hS : SpansAt w) (hG : Given w v0 n c0 f) (hG2 : GivenActs w a2 m g) :
    Calls Tryd.prog 3 #[.agg #[.int .i64 a, .int .i64 b, .int .i64 c, .int .i64 d], .slice v0 n c0, .slice a2 m c2] w fun e w' => e = .returned (.bool true) ∧ Below w.heap.size w w' := by
  by_cases hg : grt a b c d
  · exact plays_great a b c d hg v0 n c0 a2 m c2 w hS
  by_cases hm : 60 < m
  · exact plays_long a b c d hg v0 n c0 a2 m c2 hm hG2.1 w hS
  by_cases hr : Right a b c d
  · by_cases hn : (n : Int) = 5 + b + d + b * c + 3 * a
    · exact plays_right a b c d hg hr v0 n c0 f hn a2 m c2 g (by omega) w hS hG hG2
    · exact plays_len a b c d hg hr v0 n c0 hn hG.1 a2 m c2 (by omega) w hS
  · exact plays_wrong a b c d hg hr v0 n c0 a2 m c2 (by omega) w hS
end Go.Proofs.YtoojiaaooccknaaDoor
