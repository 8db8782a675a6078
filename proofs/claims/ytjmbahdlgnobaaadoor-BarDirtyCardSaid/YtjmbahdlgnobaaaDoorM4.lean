/- Laid together: ColWk, BarAwake17. -/
import Derived.Test.YtjmbahdlgnobaaaDoorColF
import Derived.Test.YtjmbahdlgnobaaaDoorRootsPure
import Derived.Test.YtjmbahdlgnobaaaDoorPlaceRef
import Derived.Test.YtjmbahdlgnobaaaDoorTwo
import Derived.Test.YtjmbahdlgnobaaaDoorM3
import Derived.Test.YtjmbahdlgnobaaaDoorPlaceFirst
import Derived.Test.YtjmbahdlgnobaaaDoorHandNew
import Derived.Test.YtjmbahdlgnobaaaDoorM2
/- A law's collector beside a hand; what is there behind its steps, beside the words that were handed in. -/
namespace Go.Proofs.YtjmbahdlgnobaaaDoor
open Go Go.RowKit
set_option maxRecDepth 100000
attribute [local go_sem ↓] Go.wp_at_zero Go.wp_at_succ

/-- The law's collector in block B, beside the hand; W0: the world ahead of the hand. -/
structure CkW (w W : World) (H A G B : Nat) (C : Cf) (s : Dy) (x : Co) : Prop where
  old : Below w.heap.size w W
  hand : HAt W H A G C s
  col : CoAt W B x
  lo : w.heap.size ≤ H ∧ w.heap.size ≤ G ∧ w.heap.size ≤ B
  ne : B ≠ H ∧ B ≠ A ∧ B ≠ G
namespace CkW
variable {w W V : World} {H A G B : Nat} {C : Cf} {s s' : Dy} {x : Co}
theorem below (h : CkW w W H A G B C s x) (hb : Below W.heap.size W V) : CkW w V H A G B C s x := ⟨belowOn h.old hb, h.hand.below hb, h.col.below hb, h.lo, h.ne⟩
theorem drew (h : CkW w W H A G B C s x) : CkW w W.drew H A G B C s x := ⟨h.old.drew, h.hand.drew, h.col.other rfl, h.lo, h.ne⟩
theorem step (h : CkW w W H A G B C s x) {v : Value} {e : Ending} (hp : HP W H A G C s' v e V) : e = .returned v ∧ CkW w V H A G B C s' x :=
  ⟨hp.1, hp.2.2.old h.old h.lo.1 h.lo.2.1, hp.2.1, h.col.savH hp.2.2 h.ne.1 h.ne.2.2, h.lo, h.ne⟩
theorem cells9 (h : CkW w W H A G B C s x) : W.cell? ⟨B, 0, none⟩ = some (.int .i64 x.l) ∧ W.cell? ⟨B, 1, none⟩ = some (.int .i64 x.j) ∧ W.cell? ⟨B, 2, none⟩ = some (.int .i64 x.c) ∧ W.cell? ⟨B, 3, none⟩ = some (.int .i64 x.m) ∧ W.cell? ⟨B, 4, none⟩ = some (.int .u64 x.a) ∧ W.cell? ⟨B, 5, none⟩ = some (.int .u64 x.p) ∧ W.cell? ⟨B, 6, none⟩ = some (.bool x.fd) ∧ W.cell? ⟨B, 7, none⟩ = some (.int .i64 x.tl) ∧ W.cell? ⟨B, 8, none⟩ = some (.int .i64 x.cy) ∧ (∀ j, W.frozen? ⟨B, j, none⟩ = false) := h.col.cells
theorem put (h : CkW w W H A G B C s x) (y : Co) : CkW w (put9 W B y.l y.j y.c y.m y.a y.p y.fd y.tl y.cy) H A G B C s y :=
  ⟨((Sav.of (S := fun _ => False) h.old).put9 (.inr h.lo.2.2) _ _ _ _ _ _ _ _ _).below (Nat.le_refl _) (fun _ _ e => e), h.hand.put9 h.ne.1 h.ne.2.1 h.ne.2.2 _ _ _ _ _ _ _ _ _, h.col.put _ _ _ _ _ _ _ _ _, h.lo, h.ne⟩
theorem setOther (h : CkW w W H A G B C s x) {p : Addr} (n1 : p.block ≠ H) (n2 : p.block ≠ A) (n3 : p.block ≠ G) (n4 : p.block ≠ B) (lo : w.heap.size ≤ p.block) (v : Value) : CkW w (W.setCell p v) H A G B C s x :=
  ⟨h.old.setCell (p := p) lo v, h.hand.setOther n1 n2 n3 v, h.col.setOther n4 v, h.lo, h.ne⟩
theorem first (hb : Below w.heap.size w W) (hH : HAt W H A G C s) (l1 : w.heap.size ≤ H) (l2 : w.heap.size ≤ G) (x : Co) : CkW w (W.alloc (.cells #[.int .i64 x.l, .int .i64 x.j, .int .i64 x.c, .int .i64 x.m, .int .u64 x.a, .int .u64 x.p, .bool x.fd, .int .i64 x.tl, .int .i64 x.cy] 28)) H A G W.heap.size C s x :=
  ⟨below_on hb _, hH.below (below_new _ _), Col9.new _ _ _ _ _ _ _ _ _ _, ⟨l1, l2, hb.size⟩, ⟨by have := hH.lt; omega, by have := hH.ar.lt; omega, by have := hH.ar.row.lt; omega⟩⟩
end CkW
/-- What is there then beside the words that were handed in, in a row of the law's own. -/
structure RnB (w W : World) (Z X : Nat) (C : Cf) (v0 : Option Addr) (f g : Nat → Int) : Prop where
  old : Below w.heap.size w W
  now : RowAt W Z 26 C.n g
  was : WordsAt W v0 C.n f
  box : BoxAt W X C.a C.b C.c C.d
namespace RnB
variable {w W V : World} {Z X : Nat} {C : Cf} {v0 : Option Addr} {f g : Nat → Int}
theorem below (h : RnB w W Z X C v0 f g) (hb : Below W.heap.size W V) : RnB w V Z X C v0 f g := ⟨belowOn h.old hb, h.now.below hb, h.was.below hb, h.box.below hb⟩
theorem drew (h : RnB w W Z X C v0 f g) : RnB w W.drew Z X C v0 f g := ⟨h.old.drew, h.now, h.was, h.box⟩
end RnB
/-- The place of a root's cell's colour, as the laws look for it. -/
theorem colP_at (C : Cf) (u : Nat) : partP C.a C.b C.c C.d 2 (cellR u) = colP C (u : Int) := by
  unfold colP fieldP cellR
  by_cases h : isC u
  · rw [if_pos h]; simp only [Int.toNat_natCast]; rw [if_pos ⟨h, by omega, by omega⟩]
  · rw [if_neg h]; simp only [Int.toNat_natCast]; rw [if_neg (fun e => h e.1)]
    unfold partP; rw [if_neg (by omega)]
/-- A place of a colour, among all words. -/
theorem col_rem {C : Cf} (hC : CfOK C) {w : Int} {k : Nat} (h : (k : Int) = colP C w) : 5 + C.b + C.d + C.b * C.c ≤ (k : Int) ∧ ((k : Int) - (5 + C.b + C.d + C.b * C.c)) % 3 = 2 ∧ k < C.n := by
  have h0 : 0 ≤ colP C w := by omega
  obtain ⟨e1, e2, e3, e4, e5⟩ := colP_spot hC h0
  have hp : partP C.a C.b C.c C.d 2 ((w.toNat / 2 : Nat) : Int) = 5 + C.b + C.d + C.b * C.c + 3 * ((w.toNat / 2 : Nat) : Int) + 2 := by unfold partP; rw [if_pos ⟨⟨by omega, e4⟩, hC.right⟩]
  have h9 : (k : Int) = 5 + C.b + C.d + C.b * C.c + 3 * ((w.toNat / 2 : Nat) : Int) + 2 := by rw [h, e5, hp]
  clear hp e5 e4 e3 e2
  omega
end Go.Proofs.YtjmbahdlgnobaaaDoor
/- awake of mudlarklaw17. -/
namespace Go.Proofs.YtjmbahdlgnobaaaDoor
open Go Go.RowKit
set_option maxRecDepth 100000
attribute [local go_sem ↓] Go.wp_at_zero Go.wp_at_succ

abbrev C17 : Cf := ⟨13, 2, 1, 1, 0⟩
/-- How far the law's own look is behind k steps. -/
def stB : Nat → Dy × Co
  | 0 => (⟨fstV 2 1 1 0, 0, 0, 0, 0, 0⟩, ⟨10, 0, 0, 0, 0, 0, false, 0, 0⟩)
  | k + 1 => ((shutS C17 (stB k).1 (stB k).2).1, (shutS C17 (stB k).1 (stB k).2).2.1)
/-- The lines that it asks for. -/
def wantF : Nat → Int
  | 0 => 11
  | 1 => 12
  | 2 => 13
  | 3 => 14
  | _ => 20
theorem stB_U : ∀ k, (stB k).1.U ∧ (stB k).2.U
  | 0 => ⟨fst_u64 right0, u64_zero, u64_zero⟩
  | k + 1 => shutS_U (stB_U k).1 _ (stB_U k).2
theorem stB_m : ∀ k, k < 5 → -1000 ≤ (stB k).2.m ∧ (stB k).2.m ≤ 1000 := by decide +kernel
theorem stB_l : ∀ k, k < 5 → (stB (k + 1)).2.l = wantF k ∧ (shutS C17 (stB k).1 (stB k).2).2.2.1 = (wantF k == 14) ∧ (shutS C17 (stB k).1 (stB k).2).2.2.2 = true := by decide +kernel
def RowW (w : World) (B : Nat) : Prop := w.heap[B]? = some (.cells #[.int .i64 11, .int .i64 12, .int .i64 13, .int .i64 14, .int .i64 20] 3 (0, 0))
theorem RowW.at' {w : World} {B : Nat} (h : RowW w B) {k : Nat} (hk : k < 5) : w.cell? ⟨B, k, none⟩ = some (.int .i64 (wantF k)) := by
  unfold RowW at h
  rcases (by omega : k = 0 ∨ k = 1 ∨ k = 2 ∨ k = 3 ∨ k = 4) with rfl | rfl | rfl | rfl | rfl
  all_goals simp [World.cell?, h, wantF]
theorem RowW.lt {w : World} {B : Nat} (h : RowW w B) : B < w.heap.size := lt_of_cell (h.at' (k := 0) (by omega))
theorem RowW.other {w w' : World} {B : Nat} (h : RowW w B) (e : w'.heap[B]? = w.heap[B]?) : RowW w' B := e.trans h
theorem RowW.below {w w' : World} {B : Nat} (h : RowW w B) (hb : Below w.heap.size w w') : RowW w' B := h.other (hb.block _ h.lt)
set_option maxHeartbeats 6400000 in
theorem awake17_c (w : World) (hS : SpansAt w) :
    Calls Tryd.prog 7 #[] w fun e w' => e = .returned (.bool true) ∧ Below w.heap.size w w' := by
  have HN := Lib.hid (New_yes 2 1 1 0 right0 w hS)
  have HS := Lib.hid hS
  have HPa : Hid (∀ k W H A G, k < 5 → SpansAt W → HAt W H A G C17 (stB k).1 → Calls Tryd.prog 11 #[.pointer (some ⟨H, 0, none⟩), (stB k).2.v] W (HP W H A G C17 (stB (k + 1)).1 (.tuple #[(stB (k + 1)).2.v, .bool (wantF k == 14), .bool true]))) := Lib.hid (fun k W H A G hk h1 h2 => by
    have := bar17_c (w := W) h2 (stB_U k).1 h1 right0 (by decide) (stB k).2 (stB_U k).2 (by have := stB_m k hk; omega)
    rw [(stB_l k hk).2.1, (stB_l k hk).2.2] at this
    exact this)
  clear hS
  go_enter Tryd.func7, Tryd.ntmps7
  go_wp2_with fail
  refine HN.out.mono ?_
  rintro e W1 ⟨n, hn, H, A, G, rfl, hF, hb, l1, l2, l3⟩
  obtain rfl : n = 13 := by omega
  have HT1 := Lib.hid (CkW.first (C := C17) (s := (stB 0).1) hb hF l1 l3 (stB 0).2)
  have HT2 : Hid (CkW w ((W1.alloc (.cells #[.int .i64 10, .int .i64 0, .int .i64 0, .int .i64 0, .int .u64 0, .int .u64 0, .bool false, .int .i64 0, .int .i64 0] 28)).alloc (.cells #[.int .i64 11, .int .i64 12, .int .i64 13, .int .i64 14, .int .i64 20] 3)) H A G W1.heap.size C17 (stB 0).1 (stB 0).2) := Lib.hid (HT1.out.below (below_new _ (.cells #[.int .i64 11, .int .i64 12, .int .i64 13, .int .i64 14, .int .i64 20] 3)))
  have HR2 : Hid (RowW ((W1.alloc (.cells #[.int .i64 10, .int .i64 0, .int .i64 0, .int .i64 0, .int .u64 0, .int .u64 0, .bool false, .int .i64 0, .int .i64 0] 28)).alloc (.cells #[.int .i64 11, .int .i64 12, .int .i64 13, .int .i64 14, .int .i64 20] 3)) (W1.heap.size + 1)) := Lib.hid (by have := newBlock (W1.alloc (.cells #[.int .i64 10, .int .i64 0, .int .i64 0, .int .i64 0, .int .u64 0, .int .u64 0, .bool false, .int .i64 0, .int .i64 0] 28)) (.cells #[.int .i64 11, .int .i64 12, .int .i64 13, .int .i64 14, .int .i64 20] 3); unfold RowW; simpa using this)
  have dQ : W1.heap.size + 1 ≠ H ∧ W1.heap.size + 1 ≠ G ∧ W1.heap.size + 1 ≠ W1.heap.size := by have h1 := hF.lt; have h3 := hF.ar.row.lt; omega
  clear hF hb HN hn HT1 l1 l2 l3
  go_wp2_with fail
  generalize (W1.alloc (.cells #[.int .i64 10, .int .i64 0, .int .i64 0, .int .i64 0, .int .u64 0, .int .u64 0, .bool false, .int .i64 0, .int .i64 0] 28)).alloc (.cells #[.int .i64 11, .int .i64 12, .int .i64 13, .int .i64 14, .int .i64 20] 3) = W5 at *
  generalize W1.heap.size + 1 = Q at *
  generalize W1.heap.size = B at *
  go_loopw [25] (fun kv wr => ∃ k : Nat, kv = .int .i64 k ∧ k ≤ 5 ∧ Hid (CkW w wr H A G B C17 (stB k).1 (stB k).2) ∧ Hid (RowW wr Q)) (fun kv _ => 5 - (intOf kv).toNat)
  case atStart => exact ⟨0, rfl, by omega, HT2, HR2⟩
  case round =>
    clear HT2 HR2
    obtain ⟨k, rfl, hk, HT, HR⟩ := hrel
    by_cases hk5 : k < 5
    · have HP := Lib.hid (HPa.out k wr H A G hk5 (HS.out.below HT.out.old) HT.out.hand)
      have hl := (stB_l k hk5).1
      have ck := HR.out.at' hk5
      have hk0 : (0 : Int) ≤ (k : Int) := by omega
      have hkI : (k : Int) < 5 := by omega
      have hk1 : IntKind.i64.wrap ((k : Int) + 1) = (k : Int) + 1 := IntWalk.i64_in _ (by omega)
      generalize wantF k = wf at *
      generalize hx : (stB k).2 = x at *
      generalize hs : (stB k).1 = s at *
      clear hx hs
      generalize hx : (stB (k + 1)).2 = x' at *
      generalize hs : (stB (k + 1)).1 = s' at *
      obtain ⟨l, j, xc, m, xa, p, fd, tl, cy⟩ := x
      obtain ⟨l', j', xc', m', xa', p', fd', tl', cy'⟩ := x'
      dsimp only at hl HP
      subst hl
      have hff : ((l' == 14) != (l' == 14)) = false := by simp
      have hww : (l' != l') = false := by simp
      obtain ⟨b0, b1, b2, b3, b4, b5, b6, b7, b8, bf⟩ := HT.out.cells9
      dsimp only at b0 b1 b2 b3 b4 b5 b6 b7 b8
      go_wp2_with fail
      refine HP.out.mono ?_
      rintro e V hp
      have HR2 := Lib.hid (HR.out.other (hp.2.2.block Q HR.out.lt (fun e => e.elim dQ.1 dQ.2.1)))
      obtain ⟨rfl, hT⟩ := HT.out.step hp
      have HT2 := Lib.hid hT
      have hBl : B < V.heap.size := hT.col.lt
      have hBn : B ≠ V.heap.size := by omega
      clear hp hT HT HR HP ck b0 b1 b2 b3 b4 b5 b6 b7 b8 bf
      obtain ⟨b0, b1, b2, b3, b4, b5, b6, b7, b8, bf⟩ := HT2.out.cells9
      dsimp only at b0 b1 b2 b3 b4 b5 b6 b7 b8
      go_wp2_with fail
      have HT3 := Lib.hid ((HT2.out.put ⟨l', j', xc', m', xa', p', fd', tl', cy'⟩).below (below_new _ (.cells #[.int .i64 l', .int .i64 j', .int .i64 xc', .int .i64 m', .int .u64 xa', .int .u64 p', .bool fd', .int .i64 tl', .int .i64 cy'] 28)))
      have HR3 := Lib.hid ((HR2.out.other (w' := put9 V B l' j' xc' m' xa' p' fd' tl' cy') (heap_put9 _ _ _ _ _ _ _ _ _ _ _ dQ.2.2)).below (below_new _ (.cells #[.int .i64 l', .int .i64 j', .int .i64 xc', .int .i64 m', .int .u64 xa', .int .u64 p', .bool fd', .int .i64 tl', .int .i64 cy'] 28)))
      go_roundw
      case rel => exact ⟨k + 1, by go_num, by omega, by rw [hx, hs]; exact HT3, HR3⟩
      case measure => simp [intOf]; omega
    · obtain rfl : k = 5 := by omega
      go_wp2_with fail
      go_ret
      exact ⟨rfl, HT.out.old⟩
end Go.Proofs.YtjmbahdlgnobaaaDoor
