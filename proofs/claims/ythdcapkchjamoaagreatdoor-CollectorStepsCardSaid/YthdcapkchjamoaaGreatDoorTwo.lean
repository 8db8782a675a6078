/- Two hands on the same words, as the laws of layers 10 and behind make them (Both), and whether both did the same (Alike). -/
import Derived.Test.YthdcapkchjamoaaGreatDoorM6
namespace Go.Proofs.YthdcapkchjamoaaGreatDoor
open Go Go.RowKit
set_option maxRecDepth 100000
attribute [local go_sem ↓] Go.wp_at_zero Go.wp_at_succ

/-- Where a hand and the document's hand lie. -/
structure Pl where
  H : Nat
  A : Nat
  G : Nat
  X : Nat
  va : Option Addr
  cap : Nat
  N : Nat
/-- A hand and the document's hand: the one has s, the other one t. -/
def Two (w W : World) (P : Pl) (C : Cf) (s t : Dy) : Prop := Both w W P.H P.A P.G P.X P.va C.n P.cap P.N C.a C.b C.c C.d s.f s.k s.i s.x s.y s.o t.f t.k t.i t.x t.y t.o
namespace Two
variable {w W V : World} {P : Pl} {C : Cf} {s t s' t' : Dy}
theorem both (h : Two w W P C s t) : Both w W P.H P.A P.G P.X P.va C.n P.cap P.N C.a C.b C.c C.d s.f s.k s.i s.x s.y s.o t.f t.k t.i t.x t.y t.o := h
theorem hand (h : Two w W P C s t) : HAt W P.H P.A P.G C s := h.both.hand
theorem ref (h : Two w W P C s t) : RAt W P.X P.va P.cap P.N C t := h.both.ref
theorem old (h : Two w W P C s t) : Below w.heap.size w W := h.both.old
theorem ltR (h : Two w W P C s t) : ∀ R, P.va = some ⟨R, 0, none⟩ → R < W.heap.size := h.both.ltR
theorem below (h : Two w W P C s t) (hb : Below W.heap.size W V) : Two w V P C s t := Both.below h hb
theorem drew (h : Two w W P C s t) : Two w W.drew P C s t := Both.drew h
theorem apart (h : Two w W P C s t) {B : Nat} (hB : W.heap.size ≤ B) : ¬ AllS P.H P.G P.X P.va B := Both.apart h hB
theorem step (h : Two w W P C s t) {v : Value} {e : Ending} (hp : HP W P.H P.A P.G C s' v e V) : e = .returned v ∧ Two w V P C s' t := ⟨hp.1, Both.act h hp.2.2 hp.2.1⟩
theorem rstep (h : Two w W P C s t) {v : Value} {e : Ending} (hp : RP W P.X P.va P.cap P.N C t' v e V) : e = .returned v ∧ Two w V P C s t' := ⟨hp.1, Both.doc h hp.2.2 hp.2.1⟩
end Two
/-- A block of the law's own lies on while a hand turns, or the document's. -/
theorem Pl.sav {W V : World} {P : Pl} (hp : Sav (HG P.H P.G) W V ∨ Sav (RS P.X P.va) W V) {B : Nat} (hB : B < W.heap.size) (h1 : ¬ AllS P.H P.G P.X P.va B) : V.heap[B]? = W.heap[B]? := by
  rcases hp with hp | hp
  · exact hp.block B hB (fun e => h1 (e.elim .inl (fun e => .inr (.inl e))))
  · exact hp.block B hB (fun e => h1 (e.elim (fun e => .inr (.inr (.inl e))) (fun e => .inr (.inr (.inr e)))))
/-- There are two hands. -/
def okB (a b c d : Int) (n : Nat) : Prop := ¬ grt a b c d ∧ Right a b c d ∧ (n : Int) = 5 + b + d + b * c + 3 * a
/-- What Both answers. -/
def BothPost (w : World) (a b c d : Int) (n : Nat) (f : Nat → Int) (e : Ending) (w' : World) : Prop :=
  (¬ okB a b c d n ∧ e = .returned (.tuple #[.pointer none, .pointer none, .bool false]) ∧ Below w.heap.size w w') ∨ (okB a b c d n ∧ ∃ P : Pl, e = .returned (.tuple #[.pointer (some ⟨P.H, 0, none⟩), .pointer (some ⟨P.X, 0, none⟩), .bool true]) ∧ Two w w' P ⟨n, a, b, c, d⟩ ⟨f, 0, 0, 0, 0, 0⟩ ⟨f, 0, 0, 0, 0, 0⟩)
theorem Both_great (a b c d : Int) (hg : grt a b c d) (v0 : Option Addr) (n c0 : Nat) (w : World) :
    Calls Tryz.prog 8 #[.agg #[.int .i64 a, .int .i64 b, .int .i64 c, .int .i64 d], .slice v0 n c0] w fun e w' => e = .returned (.tuple #[.pointer none, .pointer none, .bool false]) ∧ Below w.heap.size w w' := by
  have HB0 := Lib.hid (below_new w (.cells #[.int .i64 a, .int .i64 b, .int .i64 c, .int .i64 d] 23))
  have HX0 := Lib.hid (BoxAt.new w a b c d 23)
  have HG := Lib.hid (great_yes a b c d hg)
  clear hg
  obtain ⟨x0, x1, x2, x3⟩ := HX0.out
  go_enter Tryz.func8, Tryz.ntmps8
  go_wp2_with fail
  refine (HG.out _).mono ?_
  rintro e W1 ⟨rfl, hW⟩
  have HB1 := Lib.hid (belowOn HB0.out hW)
  have HX1 := Lib.hid (HX0.out.below hW)
  clear hW HB0 HX0 x0 x1 x2 x3
  obtain ⟨x0, x1, x2, x3⟩ := HX1.out
  go_wp2_with fail
  refine bodyPost_ret (v := .tuple #[.pointer none, .pointer none, .bool false]) (by simp [results, Tryz.f8, go_sem]) rfl ?_
  exact ⟨rfl, HB1.out⟩
theorem Both_wrong (a b c d : Int) (hg : ¬ grt a b c d) (hr : ¬ Right a b c d) (v0 : Option Addr) (n c0 : Nat) (w : World) :
    Calls Tryz.prog 8 #[.agg #[.int .i64 a, .int .i64 b, .int .i64 c, .int .i64 d], .slice v0 n c0] w fun e w' => e = .returned (.tuple #[.pointer none, .pointer none, .bool false]) ∧ Below w.heap.size w w' := by
  have HB0 := Lib.hid (below_new w (.cells #[.int .i64 a, .int .i64 b, .int .i64 c, .int .i64 d] 23))
  have HX0 := Lib.hid (BoxAt.new w a b c d 23)
  have HG := Lib.hid (great_no a b c d hg)
  have HR := Lib.hid (refRight_wrong a b c d hr)
  clear hg hr
  obtain ⟨x0, x1, x2, x3⟩ := HX0.out
  go_enter Tryz.func8, Tryz.ntmps8
  go_wp2_with fail
  refine (HG.out _).mono ?_
  rintro e W1 ⟨rfl, hW⟩
  have HB1 := Lib.hid (belowOn HB0.out hW)
  have HX1 := Lib.hid (HX0.out.below hW)
  clear hW HB0 HX0 x0 x1 x2 x3
  obtain ⟨x0, x1, x2, x3⟩ := HX1.out
  go_wp2_with fail
  refine (HR.out _).mono ?_
  rintro e W2 ⟨rfl, hW⟩
  have HB2 := Lib.hid (belowOn HB1.out hW)
  have HX2 := Lib.hid (HX1.out.below hW)
  clear hW HB1 HX1 x0 x1 x2 x3
  obtain ⟨x0, x1, x2, x3⟩ := HX2.out
  go_wp2_with fail
  refine bodyPost_ret (v := .tuple #[.pointer none, .pointer none, .bool false]) (by simp [results, Tryz.f8, go_sem]) rfl ?_
  exact ⟨rfl, HB2.out⟩
theorem Both_len (a b c d : Int) (hg : ¬ grt a b c d) (hr : Right a b c d) (v0 : Option Addr) (n c0 : Nat) (hn : ¬ (n : Int) = 5 + b + d + b * c + 3 * a) (w : World) :
    Calls Tryz.prog 8 #[.agg #[.int .i64 a, .int .i64 b, .int .i64 c, .int .i64 d], .slice v0 n c0] w fun e w' => e = .returned (.tuple #[.pointer none, .pointer none, .bool false]) ∧ Below w.heap.size w w' := by
  have HB0 := Lib.hid (below_new w (.cells #[.int .i64 a, .int .i64 b, .int .i64 c, .int .i64 d] 23))
  have HX0 := Lib.hid (BoxAt.new w a b c d 23)
  have HG := Lib.hid (great_no a b c d hg)
  have HR := Lib.hid (refRight_right a b c d hr)
  have hw := refWords_right a b c d hr
  rw [show 4 + b + (1 + d + b * c) + a + a + a = 5 + b + d + b * c + 3 * a by omega] at hw
  have hq2 : ((n : Int) != 5 + b + d + b * c + 3 * a) = true := by simpa using hn
  generalize 5 + b + d + b * c + 3 * a = z at hw hq2
  have HW := Lib.hid hw
  clear hg hr hw hn
  obtain ⟨x0, x1, x2, x3⟩ := HX0.out
  go_enter Tryz.func8, Tryz.ntmps8
  go_wp2_with fail
  refine (HG.out _).mono ?_
  rintro e W1 ⟨rfl, hW⟩
  have HB1 := Lib.hid (belowOn HB0.out hW)
  have HX1 := Lib.hid (HX0.out.below hW)
  clear hW HB0 HX0 x0 x1 x2 x3
  obtain ⟨x0, x1, x2, x3⟩ := HX1.out
  go_wp2_with fail
  refine (HR.out _).mono ?_
  rintro e W2 ⟨rfl, hW⟩
  have HB2 := Lib.hid (belowOn HB1.out hW)
  have HX2 := Lib.hid (HX1.out.below hW)
  clear hW HB1 HX1 x0 x1 x2 x3
  obtain ⟨x0, x1, x2, x3⟩ := HX2.out
  go_wp2_with fail
  refine (HW.out _).mono ?_
  rintro e W3 ⟨rfl, hW⟩
  have HB3 := Lib.hid (belowOn HB2.out hW)
  have HX3 := Lib.hid (HX2.out.below hW)
  clear hW HB2 HX2 x0 x1 x2 x3
  obtain ⟨x0, x1, x2, x3⟩ := HX3.out
  go_wp2_with fail
  refine bodyPost_ret (v := .tuple #[.pointer none, .pointer none, .bool false]) (by simp [results, Tryz.f8, go_sem]) rfl ?_
  exact ⟨rfl, HB3.out⟩
set_option maxHeartbeats 3200000 in
theorem Both_right (a b c d : Int) (hg : ¬ grt a b c d) (hr : Right a b c d) (v0 : Option Addr) (n c0 : Nat) (f : Nat → Int) (hn : (n : Int) = 5 + b + d + b * c + 3 * a) (w : World) (hS : SpansAt w) (hG : Given w v0 n c0 f) :
    Calls Tryz.prog 8 #[.agg #[.int .i64 a, .int .i64 b, .int .i64 c, .int .i64 d], .slice v0 n c0] w fun e w' => ∃ P : Pl, e = .returned (.tuple #[.pointer (some ⟨P.H, 0, none⟩), .pointer (some ⟨P.X, 0, none⟩), .bool true]) ∧ Two w w' P ⟨n, a, b, c, d⟩ ⟨f, 0, 0, 0, 0, 0⟩ ⟨f, 0, 0, 0, 0, 0⟩ := by
  have HB0 := Lib.hid (below_new w (.cells #[.int .i64 a, .int .i64 b, .int .i64 c, .int .i64 d] 23))
  have HX0 := Lib.hid (BoxAt.new w a b c d 23)
  have HS := Lib.hid hS
  clear hS
  have HG := Lib.hid (great_no a b c d hg)
  have HR := Lib.hid (refRight_right a b c d hr)
  have hw := refWords_right a b c d hr
  rw [show 4 + b + (1 + d + b * c) + a + a + a = 5 + b + d + b * c + 3 * a by omega, ← hn] at hw
  have HW := Lib.hid hw
  have hn20 : n ≤ 20000 := by have := hr.prod; unfold Right at hr; omega
  have HFR := Lib.hid (From_right a b c d hr v0 n c0 f hn)
  have HL := Lib.hid hG.2.1
  have HZ := Lib.hid hG.2.2.2
  clear hg hr hw hn hG
  obtain ⟨x0, x1, x2, x3⟩ := HX0.out
  go_enter Tryz.func8, Tryz.ntmps8
  go_wp2_with fail
  refine (HG.out _).mono ?_
  rintro e W1 ⟨rfl, hW⟩
  have HB1 := Lib.hid (belowOn HB0.out hW)
  have HX1 := Lib.hid (HX0.out.below hW)
  clear hW HB0 HX0 x0 x1 x2 x3
  obtain ⟨x0, x1, x2, x3⟩ := HX1.out
  go_wp2_with fail
  refine (HR.out _).mono ?_
  rintro e W2 ⟨rfl, hW⟩
  have HB2 := Lib.hid (belowOn HB1.out hW)
  have HX2 := Lib.hid (HX1.out.below hW)
  clear hW HB1 HX1 x0 x1 x2 x3
  obtain ⟨x0, x1, x2, x3⟩ := HX2.out
  go_wp2_with fail
  refine (HW.out _).mono ?_
  rintro e W3 ⟨rfl, hW⟩
  have HB3 := Lib.hid (belowOn HB2.out hW)
  have HX3 := Lib.hid (HX2.out.below hW)
  clear hW HB2 HX2 x0 x1 x2 x3
  obtain ⟨x0, x1, x2, x3⟩ := HX3.out
  go_wp2_with fail
  refine (HFR.out _ (HS.out.below HB3.out) (HL.out.below HB3.out)).mono ?_
  rintro e W4 ⟨H, A, G, rfl, hF, hW, l1, l2, l3⟩
  have hs2 : w.heap.size ≤ W3.heap.size := HB3.out.size
  have HF4 := Lib.hid hF
  have HB4 := Lib.hid (belowOn HB3.out hW)
  have HX4 := Lib.hid (HX3.out.below hW)
  clear hW hF HB3 HX3 x0 x1 x2 x3 HFR
  obtain ⟨x0, x1, x2, x3⟩ := HX4.out
  go_wp2_with fail
  rw [show W4.cell? = W4.drew.cell? from rfl] at x0 x1 x2 x3
  refine wp_region_held_drew (S := (fun w' => w'.cell? ⟨w.heap.size, 0, none⟩ = some (.int .i64 a) ∧ w'.cell? ⟨w.heap.size, 1, none⟩ = some (.int .i64 b) ∧ w'.cell? ⟨w.heap.size, 2, none⟩ = some (.int .i64 c) ∧ w'.cell? ⟨w.heap.size, 3, none⟩ = some (.int .i64 d))) (by kernel_rfl) ?_ (fun hHeld => ?_)
  · exact ⟨x0, x1, x2, x3⟩
  refine wpAnyH_take (i := 0) (oi := { dst := some 29, op := Op.move (Operand.tmp 7), type := 32, pos := "law.go:32", after := #[], guard := none }) (v := ?vc0) rfl (by kernel_rfl) (by kernel_rfl) (by kernel_rfl) (fun _ _ _ h => h) (Or.inl ⟨by rfl, ?hyc0⟩) hHeld ?_
  case hyc0 => (intro w hSw; (try dsimp only at hSw); go_simp; (try with_reducible rfl))
  try simp only [Act.put, List.setIfInBounds_toArray, List.set_cons_zero, List.set_cons_succ]
  refine wpAnyH_take (i := 1) (oi := { dst := some 30, op := Op.load 23 (Operand.tmp 2), type := 23, pos := "law.go:32", after := #[{ on := 12, ground := Ground.gcOnly Departure.lateStores }], guard := none }) (v := ?vc1) rfl (by kernel_rfl) (by kernel_rfl) (by kernel_rfl) (fun _ _ _ h => h) (Or.inl ⟨by rfl, ?hyc1⟩) hHeld ?_
  case hyc1 => (intro w hSw; (try dsimp only at hSw); go_simp; (try with_reducible rfl))
  try simp only [Act.put, List.setIfInBounds_toArray, List.set_cons_zero, List.set_cons_succ]
  refine wpAnyH_take (i := 2) (oi := { dst := some 31, op := Op.move (Operand.tmp 1), type := 24, pos := "law.go:32", after := #[], guard := none }) (v := ?vc2) rfl (by kernel_rfl) (by kernel_rfl) (by kernel_rfl) (fun _ _ _ h => h) (Or.inl ⟨by rfl, ?hyc2⟩) hHeld ?_
  case hyc2 => (intro w hSw; (try dsimp only at hSw); go_simp; (try with_reducible rfl))
  try simp only [Act.put, List.setIfInBounds_toArray, List.set_cons_zero, List.set_cons_succ]
  refine wpAnyH_take (i := 6) (oi := { dst := some 35, op := Op.move (Operand.tmp 8), type := 43, pos := "law.go:32", after := #[], guard := none }) (v := ?vc6) rfl (by kernel_rfl) (by kernel_rfl) (by kernel_rfl) (fun _ _ _ h => h) (Or.inl ⟨by rfl, ?hyc6⟩) hHeld ?_
  case hyc6 => (intro w hSw; (try dsimp only at hSw); go_simp; (try with_reducible rfl))
  try simp only [Act.put, List.setIfInBounds_toArray, List.set_cons_zero, List.set_cons_succ]
  refine wpAnyH_take (i := 7) (oi := { dst := some 36, op := Op.binOp BinOp.eql 43 (Operand.tmp 35) (Operand.const (Value.int IntKind.i64 0)) 43, type := 4, pos := "law.go:32", after := #[{ on := 6, ground := Ground.data }], guard := none }) (v := ?vc7) rfl (by kernel_rfl) (by kernel_rfl) (by kernel_rfl) (fun _ _ _ h => h) (Or.inl ⟨by rfl, ?hyc7⟩) hHeld ?_
  case hyc7 => (intro w hSw; (try dsimp only at hSw); go_simp; (try with_reducible rfl))
  try simp only [Act.put, List.setIfInBounds_toArray, List.set_cons_zero, List.set_cons_succ]
  refine wpAnyH_ready (rs := [3]) (by kernel_rfl) (by simp) ?_
  refine AllReadyH.cons (o := { dst := some 32, op := Op.call { callee := Callee.value (Operand.func 23), args := #[Operand.tmp 31], argTypes := #[24] }, type := 24, pos := "law.go:32", after := #[{ on := 2, ground := Ground.data }], guard := none }) rfl (fun K hK => ?_) AllReadyH.nil
  go_simp
  refine (Copy_c v0 n c0 f hn20 _ (HL.out.below HB4.out.drew) HZ.out).mono ?_
  rintro e V ⟨va, cap, rfl, hV, hM, hap⟩
  have HX6 := Lib.hid ((show BoxAt W4.drew w.heap.size a b c d from HX4.out).below hV)
  have hl0 : H < W4.heap.size := HF4.out.lt
  have hl1 : A < W4.heap.size := HF4.out.ar.lt
  have hl2 : G < W4.heap.size := HF4.out.ar.row.lt
  have hl3 : W4.heap.size ≤ V.heap.size := hV.size
  have HB : Hid (Two w (V.alloc (.cells #[.int .i64 a, .int .i64 b, .int .i64 c, .int .i64 d, .slice va n cap, .int .i64 0, .int .i64 0, .int .u64 0, .int .u64 0, .int .u64 0] 59)) ⟨H, A, G, V.heap.size, va, cap, W4.drew.heap.size⟩ ⟨n, a, b, c, d⟩ ⟨f, 0, 0, 0, 0, 0⟩ ⟨f, 0, 0, 0, 0, 0⟩) := Lib.hid ⟨below_on (belowOn HB4.out.drew hV) _, (HF4.out.drew.below hV).below (below_new _ _), ⟨fun R e => by have := (hap R e).2; show V.heap.size ≠ R; omega, newBlock _ _, hM.below (below_new _ _)⟩, by show w.heap.size ≤ H; omega, by show w.heap.size ≤ G; omega, by have := HB4.out.size; show w.heap.size ≤ V.heap.size; omega, fun R e => by have h1 : W4.heap.size ≤ R := (hap R e).1; have h2 := (hap R e).2; have h3 := HB4.out.size; refine ⟨by omega, by simp; omega, by show R ≠ H; omega, by show R ≠ A; omega, by show R ≠ G; omega⟩, by show V.heap.size ≠ H; omega, by show V.heap.size ≠ A; omega, by show V.heap.size ≠ G; omega⟩
  clear hV hM hap HB4 HX4 HF4 hHeld x0 x1 x2 x3 hl0 hl1 hl2 hl3
  refine hK.out _ _ ?_ (fun hHeld => ?_)
  · exact HX6.out
  clear hK K
  try simp only [Act.put, List.setIfInBounds_toArray, List.set_cons_zero, List.set_cons_succ]
  refine wpAnyH_take (i := 4) (oi := { dst := some 33, op := Op.build 59 #[(0, Operand.tmp 30), (1, Operand.tmp 32)], type := 59, pos := "law.go:32", after := #[{ on := 1, ground := Ground.data }, { on := 3, ground := Ground.data }, { on := 12, ground := Ground.gcOnly Departure.lateStores }], guard := none }) (v := ?vc4) rfl (by kernel_rfl) (by kernel_rfl) (by kernel_rfl) (fun _ _ _ h => h) (Or.inl ⟨by rfl, ?hyc4⟩) hHeld ?_
  case hyc4 => (intro w hSw; (try dsimp only at hSw); go_simp; (try with_reducible rfl))
  try simp only [Act.put, List.setIfInBounds_toArray, List.set_cons_zero, List.set_cons_succ]
  refine wpAnyH_take (i := 8) (oi := { dst := some 37, op := Op.move (Operand.tmp 36), type := 4, pos := "law.go:32", after := #[{ on := 7, ground := Ground.data }, { on := 3, ground := Ground.chain }], guard := none }) (v := ?vc8) rfl (by kernel_rfl) (by kernel_rfl) (by kernel_rfl) (fun _ _ _ h => h) (Or.inl ⟨by rfl, ?hyc8⟩) hHeld ?_
  case hyc8 => (intro w hSw; (try dsimp only at hSw); go_simp; (try with_reducible rfl))
  try simp only [Act.put, List.setIfInBounds_toArray, List.set_cons_zero, List.set_cons_succ]
  refine wpAnyH_take (i := 9) (oi := { dst := some 38, op := Op.move (Operand.tmp 7), type := 32, pos := "law.go:32", after := #[{ on := 8, ground := Ground.guard }, { on := 13, ground := Ground.gcOnly Departure.lateStores }], guard := some (8, true) }) (v := ?vc9) rfl (by kernel_rfl) (by kernel_rfl) (by kernel_rfl) (fun _ _ _ h => h) (Or.inl ⟨by rfl, ?hyc9⟩) hHeld ?_
  case hyc9 => (intro w hSw; (try dsimp only at hSw); go_simp; (try with_reducible rfl))
  try simp only [Act.put, List.setIfInBounds_toArray, List.set_cons_zero, List.set_cons_succ]
  refine wpAnyH_take (i := 10) (oi := { dst := some 39, op := Op.binOp BinOp.neq 32 (Operand.tmp 38) (Operand.const (Value.pointer none)) 32, type := 4, pos := "law.go:32", after := #[{ on := 9, ground := Ground.data }, { on := 8, ground := Ground.guard }, { on := 13, ground := Ground.gcOnly Departure.lateStores }], guard := some (8, true) }) (v := ?vc10) rfl (by kernel_rfl) (by kernel_rfl) (by kernel_rfl) (fun _ _ _ h => h) (Or.inl ⟨by rfl, ?hyc10⟩) hHeld ?_
  case hyc10 => (intro w hSw; (try dsimp only at hSw); go_simp; (try with_reducible rfl))
  try simp only [Act.put, List.setIfInBounds_toArray, List.set_cons_zero, List.set_cons_succ]
  refine wpAnyH_take (i := 11) (oi := { dst := some 40, op := Op.pick (Operand.tmp 37) (Operand.tmp 39) (Operand.const (Value.bool false)), type := 4, pos := "law.go:32", after := #[{ on := 8, ground := Ground.data }, { on := 10, ground := Ground.data }, { on := 13, ground := Ground.gcOnly Departure.lateStores }], guard := none }) (v := ?vc11) rfl (by kernel_rfl) (by kernel_rfl) (by kernel_rfl) (fun _ _ _ h => h) (Or.inl ⟨by rfl, ?hyc11⟩) hHeld ?_
  case hyc11 => (intro w hSw; (try dsimp only at hSw); go_simp; (try with_reducible rfl))
  try simp only [Act.put, List.setIfInBounds_toArray, List.set_cons_zero, List.set_cons_succ]
  refine wpAnyH_take (i := 12) (oi := { dst := some 4, op := Op.assign (Operand.tmp 29), type := 32, pos := "law.go:32", after := #[{ on := 0, ground := Ground.data }, { on := 8, ground := Ground.chain }, { on := 0, ground := Ground.phase }, { on := 1, ground := Ground.textOnly Departure.lateStores }, { on := 2, ground := Ground.textOnly Departure.lateStores }, { on := 3, ground := Ground.textOnly Departure.lateStoresUnsure }, { on := 4, ground := Ground.textOnly Departure.lateStores }, { on := 5, ground := Ground.textOnly Departure.lateStores }, { on := 6, ground := Ground.textOnly Departure.lateStores }, { on := 7, ground := Ground.textOnly Departure.lateStores }, { on := 8, ground := Ground.textOnly Departure.lateStores }, { on := 9, ground := Ground.textOnly Departure.lateStores }, { on := 10, ground := Ground.textOnly Departure.lateStores }, { on := 11, ground := Ground.textOnly Departure.lateStores }], guard := none }) (v := ?vc12) rfl (by kernel_rfl) (by kernel_rfl) (by kernel_rfl) (fun _ _ _ h => h) (Or.inl ⟨by rfl, ?hyc12⟩) hHeld ?_
  case hyc12 => (intro w hSw; (try dsimp only at hSw); go_simp; (try with_reducible rfl))
  try simp only [Act.put, List.setIfInBounds_toArray, List.set_cons_zero, List.set_cons_succ]
  refine wpAnyH_ready (rs := [5]) (by kernel_rfl) (by simp) ?_
  refine AllReadyH.cons (o := { dst := some 34, op := Op.box 59 (Operand.tmp 33), type := 33, pos := "law.go:32", after := #[{ on := 4, ground := Ground.data }, { on := 12, ground := Ground.gcOnly Departure.lateStores }], guard := none }) rfl (fun K hK => ?_) AllReadyH.nil
  go_simp
  have HX7 := HX6.out.below (below_new V (.cells #[.int .i64 a, .int .i64 b, .int .i64 c, .int .i64 d, .slice va n cap, .int .i64 0, .int .i64 0, .int .u64 0, .int .u64 0, .int .u64 0] 59))
  refine hK.out _ _ ?_ (fun hHeld => ?_)
  · exact HX7
  clear hK K
  try simp only [Act.put, List.setIfInBounds_toArray, List.set_cons_zero, List.set_cons_succ]
  refine wpAnyH_take (i := 13) (oi := { dst := some 5, op := Op.assign (Operand.tmp 34), type := 33, pos := "law.go:32", after := #[{ on := 5, ground := Ground.data }, { on := 12, ground := Ground.chain }, { on := 0, ground := Ground.phase }, { on := 1, ground := Ground.phase }, { on := 2, ground := Ground.phase }, { on := 3, ground := Ground.phase }, { on := 4, ground := Ground.phase }, { on := 5, ground := Ground.phase }, { on := 6, ground := Ground.textOnly Departure.lateStores }, { on := 7, ground := Ground.textOnly Departure.lateStores }, { on := 8, ground := Ground.textOnly Departure.lateStores }, { on := 9, ground := Ground.textOnly Departure.lateStores }, { on := 10, ground := Ground.textOnly Departure.lateStores }, { on := 11, ground := Ground.textOnly Departure.lateStores }, { on := 12, ground := Ground.phase }], guard := none }) (v := ?vc13) rfl (by kernel_rfl) (by kernel_rfl) (by kernel_rfl) (fun _ _ _ h => h) (Or.inl ⟨by rfl, ?hyc13⟩) hHeld ?_
  case hyc13 => (intro w hSw; (try dsimp only at hSw); go_simp; (try with_reducible rfl))
  try simp only [Act.put, List.setIfInBounds_toArray, List.set_cons_zero, List.set_cons_succ]
  refine wpAnyH_take (i := 14) (oi := { dst := some 6, op := Op.assign (Operand.tmp 40), type := 4, pos := "law.go:32", after := #[{ on := 11, ground := Ground.data }, { on := 13, ground := Ground.chain }, { on := 0, ground := Ground.phase }, { on := 1, ground := Ground.phase }, { on := 2, ground := Ground.phase }, { on := 3, ground := Ground.phase }, { on := 4, ground := Ground.phase }, { on := 5, ground := Ground.phase }, { on := 6, ground := Ground.phase }, { on := 7, ground := Ground.phase }, { on := 8, ground := Ground.phase }, { on := 9, ground := Ground.phase }, { on := 10, ground := Ground.phase }, { on := 11, ground := Ground.phase }, { on := 12, ground := Ground.phase }, { on := 13, ground := Ground.phase }], guard := none }) (v := ?vc14) rfl (by kernel_rfl) (by kernel_rfl) (by kernel_rfl) (fun _ _ _ h => h) (Or.inl ⟨by rfl, ?hyc14⟩) hHeld ?_
  case hyc14 => (intro w hSw; (try dsimp only at hSw); go_simp; (try with_reducible rfl))
  try simp only [Act.put, List.setIfInBounds_toArray, List.set_cons_zero, List.set_cons_succ]
  refine wpAnyH_done (by kernel_rfl) ?_ _
  clear hHeld HX6 HL HZ HS HG HX7
  generalize V.heap.size = X at *
  go_wp2_with fail
  refine bodyPost_ret (v := .tuple #[.pointer (some ⟨H, 0, none⟩), .pointer (some ⟨X, 0, none⟩), .bool true]) (by simp [results, Tryz.f8, go_sem]) rfl ?_
  exact ⟨_, rfl, HB.out⟩
theorem Both_any (a b c d : Int) (v0 : Option Addr) (n c0 : Nat) (f : Nat → Int) (w : World) (hS : SpansAt w) (hG : Given w v0 n c0 f) :
    Calls Tryz.prog 8 #[.agg #[.int .i64 a, .int .i64 b, .int .i64 c, .int .i64 d], .slice v0 n c0] w (BothPost w a b c d n f) := by
  by_cases hg : grt a b c d
  · exact (Both_great a b c d hg v0 n c0 w).mono fun e W h => .inl ⟨fun k => k.1 hg, h⟩
  by_cases hr : Right a b c d
  · by_cases hn : (n : Int) = 5 + b + d + b * c + 3 * a
    · exact (Both_right a b c d hg hr v0 n c0 f hn w hS hG).mono fun e W h => .inr ⟨⟨hg, hr, hn⟩, h⟩
    · exact (Both_len a b c d hg hr v0 n c0 hn w).mono fun e W h => .inl ⟨fun k => hn k.2.2, h⟩
  · exact (Both_wrong a b c d hg hr v0 n c0 w).mono fun e W h => .inl ⟨fun k => hr k.2.1, h⟩
set_option maxHeartbeats 3200000 in
theorem Alike_b {w W : World} {P : Pl} {C : Cf} {s : Dy} (h : Two w W P C s s) (hn : C.n ≤ 20000) :
    Calls Tryz.prog 13 #[.pointer (some ⟨P.H, 0, none⟩), .pointer (some ⟨P.X, 0, none⟩)] W fun e V => e = .returned (.bool true) ∧ Two w V P C s s ∧ Below W.heap.size W V := by
  have HB1 := Lib.hid h.drew.both
  have HQ1 := Lib.hid (Below.refl W.heap.size W).drew
  clear h
  obtain ⟨h0, _, h5, h6, h7, h8, h9, _⟩ := HB1.out.hand.cells
  obtain ⟨r4, _, r5, r6, r7, r8, r9, _⟩ := HB1.out.ref.cells
  go_enter Tryz.func13, Tryz.ntmps13
  go_wp2_with fail
  refine wp_region_held_drew (S := (fun w' => w'.cell? ⟨P.H, 0, none⟩ = some (.pointer (some ⟨P.A, 0, none⟩)) ∧ w'.cell? ⟨P.H, 5, none⟩ = some (.int .i64 s.k) ∧ w'.cell? ⟨P.H, 6, none⟩ = some (.int .i64 s.i) ∧ w'.cell? ⟨P.H, 7, none⟩ = some (.int .u64 s.x) ∧ w'.cell? ⟨P.H, 8, none⟩ = some (.int .u64 s.y) ∧ w'.cell? ⟨P.H, 9, none⟩ = some (.int .u64 s.o) ∧ w'.cell? ⟨P.X, 4, none⟩ = some (.slice P.va C.n P.cap) ∧ w'.cell? ⟨P.X, 5, none⟩ = some (.int .i64 s.k) ∧ w'.cell? ⟨P.X, 6, none⟩ = some (.int .i64 s.i) ∧ w'.cell? ⟨P.X, 7, none⟩ = some (.int .u64 s.x) ∧ w'.cell? ⟨P.X, 8, none⟩ = some (.int .u64 s.y) ∧ w'.cell? ⟨P.X, 9, none⟩ = some (.int .u64 s.o))) (by kernel_rfl) ?_ (fun hHeld => ?_)
  · exact ⟨h0, h5, h6, h7, h8, h9, r4, r5, r6, r7, r8, r9⟩
  refine wpAnyH_take (i := 0) (oi := { dst := some 5, op := Op.move (Operand.tmp 0), type := 32, pos := "law.go:37", after := #[], guard := none }) (v := ?vk0) rfl (by kernel_rfl) (by kernel_rfl) (by kernel_rfl) (fun _ _ _ h => h) (Or.inl ⟨by rfl, ?hyk0⟩) hHeld ?_
  case hyk0 => (intro w hSw; (try dsimp only at hSw); go_simp; (try with_reducible rfl))
  try simp only [Act.put, List.setIfInBounds_toArray, List.set_cons_zero, List.set_cons_succ]
  refine wpAnyH_take (i := 1) (oi := { dst := some 6, op := Op.nilCheck (Operand.tmp 5), type := 0, pos := "law.go:37", after := #[{ on := 0, ground := Ground.data }], guard := none }) (v := ?vk1) rfl (by kernel_rfl) (by kernel_rfl) (by kernel_rfl) (fun _ _ _ h => h) (Or.inl ⟨by rfl, ?hyk1⟩) hHeld ?_
  case hyk1 => (intro w hSw; (try dsimp only at hSw); go_simp; (try with_reducible rfl))
  try simp only [Act.put, List.setIfInBounds_toArray, List.set_cons_zero, List.set_cons_succ]
  refine wpAnyH_take (i := 2) (oi := { dst := some 7, op := Op.fieldAddr 52 (Operand.tmp 6) 2, type := 0, pos := "law.go:37", after := #[{ on := 1, ground := Ground.data }], guard := none }) (v := ?vk2) rfl (by kernel_rfl) (by kernel_rfl) (by kernel_rfl) (fun _ _ _ h => h) (Or.inl ⟨by rfl, ?hyk2⟩) hHeld ?_
  case hyk2 => (intro w hSw; (try dsimp only at hSw); go_simp; (try with_reducible rfl))
  try simp only [Act.put, List.setIfInBounds_toArray, List.set_cons_zero, List.set_cons_succ]
  refine wpAnyH_take (i := 3) (oi := { dst := some 8, op := Op.load 50 (Operand.tmp 7), type := 50, pos := "law.go:37", after := #[{ on := 2, ground := Ground.data }], guard := none }) (v := ?vk3) rfl (by kernel_rfl) (by kernel_rfl) (by kernel_rfl) (fun _ _ _ h => h) (Or.inl ⟨by rfl, ?hyk3⟩) hHeld ?_
  case hyk3 => (intro w hSw; (try dsimp only at hSw); go_simp; (try with_reducible rfl))
  try simp only [Act.put, List.setIfInBounds_toArray, List.set_cons_zero, List.set_cons_succ]
  refine wpAnyH_take (i := 4) (oi := { dst := some 9, op := Op.move (Operand.tmp 1), type := 33, pos := "law.go:37", after := #[], guard := none }) (v := ?vk4) rfl (by kernel_rfl) (by kernel_rfl) (by kernel_rfl) (fun _ _ _ h => h) (Or.inl ⟨by rfl, ?hyk4⟩) hHeld ?_
  case hyk4 => (intro w hSw; (try dsimp only at hSw); go_simp; (try with_reducible rfl))
  try simp only [Act.put, List.setIfInBounds_toArray, List.set_cons_zero, List.set_cons_succ]
  refine wpAnyH_take (i := 5) (oi := { dst := some 10, op := Op.nilCheck (Operand.tmp 9), type := 0, pos := "law.go:37", after := #[{ on := 4, ground := Ground.data }], guard := none }) (v := ?vk5) rfl (by kernel_rfl) (by kernel_rfl) (by kernel_rfl) (fun _ _ _ h => h) (Or.inl ⟨by rfl, ?hyk5⟩) hHeld ?_
  case hyk5 => (intro w hSw; (try dsimp only at hSw); go_simp; (try with_reducible rfl))
  try simp only [Act.put, List.setIfInBounds_toArray, List.set_cons_zero, List.set_cons_succ]
  refine wpAnyH_take (i := 6) (oi := { dst := some 11, op := Op.fieldAddr 59 (Operand.tmp 10) 2, type := 0, pos := "law.go:37", after := #[{ on := 5, ground := Ground.data }], guard := none }) (v := ?vk6) rfl (by kernel_rfl) (by kernel_rfl) (by kernel_rfl) (fun _ _ _ h => h) (Or.inl ⟨by rfl, ?hyk6⟩) hHeld ?_
  case hyk6 => (intro w hSw; (try dsimp only at hSw); go_simp; (try with_reducible rfl))
  try simp only [Act.put, List.setIfInBounds_toArray, List.set_cons_zero, List.set_cons_succ]
  refine wpAnyH_take (i := 7) (oi := { dst := some 12, op := Op.load 50 (Operand.tmp 11), type := 50, pos := "law.go:37", after := #[{ on := 6, ground := Ground.data }], guard := none }) (v := ?vk7) rfl (by kernel_rfl) (by kernel_rfl) (by kernel_rfl) (fun _ _ _ h => h) (Or.inl ⟨by rfl, ?hyk7⟩) hHeld ?_
  case hyk7 => (intro w hSw; (try dsimp only at hSw); go_simp; (try with_reducible rfl))
  try simp only [Act.put, List.setIfInBounds_toArray, List.set_cons_zero, List.set_cons_succ]
  refine wpAnyH_take (i := 8) (oi := { dst := some 13, op := Op.binOp BinOp.eql 50 (Operand.tmp 8) (Operand.tmp 12) 50, type := 4, pos := "law.go:37", after := #[{ on := 3, ground := Ground.data }, { on := 7, ground := Ground.data }], guard := none }) (v := ?vk8) rfl (by kernel_rfl) (by kernel_rfl) (by kernel_rfl) (fun _ _ _ h => h) (Or.inl ⟨by rfl, ?hyk8⟩) hHeld ?_
  case hyk8 => (intro w hSw; (try dsimp only at hSw); go_simp; (try with_reducible rfl))
  try simp only [Act.put, List.setIfInBounds_toArray, List.set_cons_zero, List.set_cons_succ]
  refine wpAnyH_take (i := 9) (oi := { dst := some 14, op := Op.move (Operand.tmp 13), type := 4, pos := "law.go:37", after := #[{ on := 8, ground := Ground.data }], guard := none }) (v := ?vk9) rfl (by kernel_rfl) (by kernel_rfl) (by kernel_rfl) (fun _ _ _ h => h) (Or.inl ⟨by rfl, ?hyk9⟩) hHeld ?_
  case hyk9 => (intro w hSw; (try dsimp only at hSw); go_simp; (try with_reducible rfl))
  try simp only [Act.put, List.setIfInBounds_toArray, List.set_cons_zero, List.set_cons_succ]
  refine wpAnyH_take (i := 10) (oi := { dst := some 15, op := Op.move (Operand.tmp 0), type := 32, pos := "law.go:37", after := #[{ on := 9, ground := Ground.guard }], guard := some (9, true) }) (v := ?vk10) rfl (by kernel_rfl) (by kernel_rfl) (by kernel_rfl) (fun _ _ _ h => h) (Or.inl ⟨by rfl, ?hyk10⟩) hHeld ?_
  case hyk10 => (intro w hSw; (try dsimp only at hSw); go_simp; (try with_reducible rfl))
  try simp only [Act.put, List.setIfInBounds_toArray, List.set_cons_zero, List.set_cons_succ]
  refine wpAnyH_take (i := 11) (oi := { dst := some 16, op := Op.nilCheck (Operand.tmp 15), type := 0, pos := "law.go:37", after := #[{ on := 10, ground := Ground.data }, { on := 9, ground := Ground.guard }], guard := some (9, true) }) (v := ?vk11) rfl (by kernel_rfl) (by kernel_rfl) (by kernel_rfl) (fun _ _ _ h => h) (Or.inl ⟨by rfl, ?hyk11⟩) hHeld ?_
  case hyk11 => (intro w hSw; (try dsimp only at hSw); go_simp; (try with_reducible rfl))
  try simp only [Act.put, List.setIfInBounds_toArray, List.set_cons_zero, List.set_cons_succ]
  refine wpAnyH_take (i := 12) (oi := { dst := some 17, op := Op.fieldAddr 52 (Operand.tmp 16) 0, type := 0, pos := "law.go:37", after := #[{ on := 11, ground := Ground.data }, { on := 9, ground := Ground.guard }], guard := some (9, true) }) (v := ?vk12) rfl (by kernel_rfl) (by kernel_rfl) (by kernel_rfl) (fun _ _ _ h => h) (Or.inl ⟨by rfl, ?hyk12⟩) hHeld ?_
  case hyk12 => (intro w hSw; (try dsimp only at hSw); go_simp; (try with_reducible rfl))
  try simp only [Act.put, List.setIfInBounds_toArray, List.set_cons_zero, List.set_cons_succ]
  refine wpAnyH_take (i := 13) (oi := { dst := some 18, op := Op.load 46 (Operand.tmp 17), type := 46, pos := "law.go:37", after := #[{ on := 12, ground := Ground.data }, { on := 9, ground := Ground.guard }], guard := some (9, true) }) (v := ?vk13) rfl (by kernel_rfl) (by kernel_rfl) (by kernel_rfl) (fun _ _ _ h => h) (Or.inl ⟨by rfl, ?hyk13⟩) hHeld ?_
  case hyk13 => (intro w hSw; (try dsimp only at hSw); go_simp; (try with_reducible rfl))
  try simp only [Act.put, List.setIfInBounds_toArray, List.set_cons_zero, List.set_cons_succ]
  refine wpAnyH_take (i := 15) (oi := { dst := some 20, op := Op.move (Operand.tmp 1), type := 33, pos := "law.go:37", after := #[{ on := 9, ground := Ground.guard }], guard := some (9, true) }) (v := ?vk15) rfl (by kernel_rfl) (by kernel_rfl) (by kernel_rfl) (fun _ _ _ h => h) (Or.inl ⟨by rfl, ?hyk15⟩) hHeld ?_
  case hyk15 => (intro w hSw; (try dsimp only at hSw); go_simp; (try with_reducible rfl))
  try simp only [Act.put, List.setIfInBounds_toArray, List.set_cons_zero, List.set_cons_succ]
  refine wpAnyH_take (i := 16) (oi := { dst := some 21, op := Op.nilCheck (Operand.tmp 20), type := 0, pos := "law.go:37", after := #[{ on := 15, ground := Ground.data }, { on := 9, ground := Ground.guard }], guard := some (9, true) }) (v := ?vk16) rfl (by kernel_rfl) (by kernel_rfl) (by kernel_rfl) (fun _ _ _ h => h) (Or.inl ⟨by rfl, ?hyk16⟩) hHeld ?_
  case hyk16 => (intro w hSw; (try dsimp only at hSw); go_simp; (try with_reducible rfl))
  try simp only [Act.put, List.setIfInBounds_toArray, List.set_cons_zero, List.set_cons_succ]
  refine wpAnyH_take (i := 17) (oi := { dst := some 22, op := Op.fieldAddr 59 (Operand.tmp 21) 1, type := 0, pos := "law.go:37", after := #[{ on := 16, ground := Ground.data }, { on := 9, ground := Ground.guard }], guard := some (9, true) }) (v := ?vk17) rfl (by kernel_rfl) (by kernel_rfl) (by kernel_rfl) (fun _ _ _ h => h) (Or.inl ⟨by rfl, ?hyk17⟩) hHeld ?_
  case hyk17 => (intro w hSw; (try dsimp only at hSw); go_simp; (try with_reducible rfl))
  try simp only [Act.put, List.setIfInBounds_toArray, List.set_cons_zero, List.set_cons_succ]
  refine wpAnyH_take (i := 18) (oi := { dst := some 23, op := Op.load 24 (Operand.tmp 22), type := 24, pos := "law.go:37", after := #[{ on := 17, ground := Ground.data }, { on := 9, ground := Ground.guard }], guard := some (9, true) }) (v := ?vk18) rfl (by kernel_rfl) (by kernel_rfl) (by kernel_rfl) (fun _ _ _ h => h) (Or.inl ⟨by rfl, ?hyk18⟩) hHeld ?_
  case hyk18 => (intro w hSw; (try dsimp only at hSw); go_simp; (try with_reducible rfl))
  try simp only [Act.put, List.setIfInBounds_toArray, List.set_cons_zero, List.set_cons_succ]
  refine wpAnyH_ready (rs := [14]) (by kernel_rfl) (by simp) ?_
  refine AllReadyH.cons (o := { dst := some 19, op := Op.call { callee := Callee.value (Operand.func 32), args := #[Operand.tmp 18], argTypes := #[46] }, type := 24, pos := "law.go:37", after := #[{ on := 13, ground := Ground.data }, { on := 9, ground := Ground.chain }, { on := 9, ground := Ground.guard }], guard := some (9, true) }) rfl (fun K hK => ?_) AllReadyH.nil
  go_simp
  refine (All_c HB1.out.hand.ar hn).mono ?_
  rintro e U1 ⟨rfl, hrow, hV⟩
  have HB2 := Lib.hid (HB1.out.below hV)
  have HQ2 := Lib.hid (belowOn HQ1.out hV)
  have HW := Lib.hid hrow.words
  clear hrow hV hHeld HB1
  clear h0 h5 h6 h7 h8 h9 r4 r5 r6 r7 r8 r9
  obtain ⟨h0, _, h5, h6, h7, h8, h9, _⟩ := HB2.out.hand.cells
  obtain ⟨r4, _, r5, r6, r7, r8, r9, _⟩ := HB2.out.ref.cells
  refine hK.out _ _ ?_ (fun hHeld => ?_)
  · exact ⟨h0, h5, h6, h7, h8, h9, r4, r5, r6, r7, r8, r9⟩
  clear hK K
  try simp only [Act.put, List.setIfInBounds_toArray, List.set_cons_zero, List.set_cons_succ]
  refine wpAnyH_ready (rs := [19]) (by kernel_rfl) (by simp) ?_
  refine AllReadyH.cons (o := { dst := some 24, op := Op.call { callee := Callee.value (Operand.func 31), args := #[Operand.tmp 19, Operand.tmp 23], argTypes := #[24, 24] }, type := 4, pos := "law.go:37", after := #[{ on := 14, ground := Ground.data }, { on := 18, ground := Ground.data }, { on := 14, ground := Ground.chain }, { on := 9, ground := Ground.guard }], guard := some (9, true) }) rfl (fun K hK => ?_) AllReadyH.nil
  go_simp
  refine (Same_c _ P.va C.n C.n P.cap s.f hn _ HW.out HB2.out.ref.mine.words).mono ?_
  rintro e U2 ⟨rfl, hV⟩
  have HB3 := Lib.hid (HB2.out.below hV)
  have HQ3 := Lib.hid (belowOn HQ2.out hV)
  clear hV hHeld HB2 HW
  clear h0 h5 h6 h7 h8 h9 r4 r5 r6 r7 r8 r9
  obtain ⟨h0, _, h5, h6, h7, h8, h9, _⟩ := HB3.out.hand.cells
  obtain ⟨r4, _, r5, r6, r7, r8, r9, _⟩ := HB3.out.ref.cells
  refine hK.out _ _ ?_ (fun hHeld => ?_)
  · exact ⟨h0, h5, h6, h7, h8, h9, r4, r5, r6, r7, r8, r9⟩
  clear hK K
  try simp only [Act.put, List.setIfInBounds_toArray, List.set_cons_zero, List.set_cons_succ]
  refine wpAnyH_take (i := 20) (oi := { dst := some 25, op := Op.pick (Operand.tmp 14) (Operand.tmp 24) (Operand.const (Value.bool false)), type := 4, pos := "law.go:37", after := #[{ on := 9, ground := Ground.data }, { on := 19, ground := Ground.data }], guard := none }) (v := ?vk20) rfl (by kernel_rfl) (by kernel_rfl) (by kernel_rfl) (fun _ _ _ h => h) (Or.inl ⟨by rfl, ?hyk20⟩) hHeld ?_
  case hyk20 => (intro w hSw; (try dsimp only at hSw); go_simp; (try with_reducible rfl))
  try simp only [Act.put, List.setIfInBounds_toArray, List.set_cons_zero, List.set_cons_succ]
  refine wpAnyH_take (i := 21) (oi := { dst := some 4, op := Op.assign (Operand.tmp 25), type := 4, pos := "law.go:37", after := #[{ on := 20, ground := Ground.data }, { on := 19, ground := Ground.chain }, { on := 0, ground := Ground.phase }, { on := 1, ground := Ground.phase }, { on := 2, ground := Ground.phase }, { on := 3, ground := Ground.phase }, { on := 4, ground := Ground.phase }, { on := 5, ground := Ground.phase }, { on := 6, ground := Ground.phase }, { on := 7, ground := Ground.phase }, { on := 8, ground := Ground.phase }, { on := 9, ground := Ground.phase }, { on := 10, ground := Ground.phase }, { on := 11, ground := Ground.phase }, { on := 12, ground := Ground.phase }, { on := 13, ground := Ground.phase }, { on := 14, ground := Ground.phase }, { on := 15, ground := Ground.phase }, { on := 16, ground := Ground.phase }, { on := 17, ground := Ground.phase }, { on := 18, ground := Ground.phase }, { on := 19, ground := Ground.phase }, { on := 20, ground := Ground.phase }], guard := none }) (v := ?vk21) rfl (by kernel_rfl) (by kernel_rfl) (by kernel_rfl) (fun _ _ _ h => h) (Or.inl ⟨by rfl, ?hyk21⟩) hHeld ?_
  case hyk21 => (intro w hSw; (try dsimp only at hSw); go_simp; (try with_reducible rfl))
  try simp only [Act.put, List.setIfInBounds_toArray, List.set_cons_zero, List.set_cons_succ]
  refine wpAnyH_done (by kernel_rfl) ?_ _
  clear hHeld
  clear h0 h5 h6 h7 h8 h9 r4 r5 r6 r7 r8 r9
  go_wp2_with fail
  go_ret
  exact ⟨rfl, HB3.out, HQ3.out⟩
theorem Alike_c {w W : World} {P : Pl} {C : Cf} {s : Dy} (h : Two w W P C s s) (hn : C.n ≤ 20000) :
    Calls Tryz.prog 13 #[.pointer (some ⟨P.H, 0, none⟩), .pointer (some ⟨P.X, 0, none⟩)] W fun e V => e = .returned (.bool true) ∧ Two w V P C s s := (Alike_b h hn).mono (fun _ _ h => ⟨h.1, h.2.1⟩)
/-- A block lies apart from both hands. -/
def Pl.Out (P : Pl) (B : Nat) : Prop := B ≠ P.H ∧ B ≠ P.A ∧ B ≠ P.G ∧ B ≠ P.X ∧ ∀ R, P.va = some ⟨R, 0, none⟩ → R ≠ B
theorem Two.out {w W : World} {P : Pl} {C : Cf} {s t : Dy} (h : Two w W P C s t) {B : Nat} (hB : W.heap.size ≤ B) : P.Out B := by
  have h1 := h.hand.lt; have h2 := h.hand.ar.lt; have h3 := h.hand.ar.row.lt; have h4 := h.ref.lt
  exact ⟨by omega, by omega, by omega, by omega, fun R e => by have := h.ltR R e; omega⟩
theorem Pl.Out.notS {P : Pl} {B : Nat} (h : P.Out B) : ¬ AllS P.H P.G P.X P.va B := by
  rintro (e | e | e | e)
  · exact h.1 e
  · exact h.2.2.1 e
  · exact h.2.2.2.1 e
  · exact h.2.2.2.2 B e rfl
end Go.Proofs.YthdcapkchjamoaaGreatDoor
