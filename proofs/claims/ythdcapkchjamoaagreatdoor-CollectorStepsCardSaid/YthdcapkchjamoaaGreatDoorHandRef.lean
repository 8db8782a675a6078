/- The document's hand: Do, Load, Store, Cas, Add, at every place; Field, of every word and part; the document's Great. -/
import Derived.Test.YthdcapkchjamoaaGreatDoorM4
import Derived.Test.YthdcapkchjamoaaGreatDoorPlaceRef
namespace Go.Proofs.YthdcapkchjamoaaGreatDoor
open Go Go.RowKit
set_option maxRecDepth 100000
attribute [local go_sem ↓] Go.wp_at_zero Go.wp_at_succ

theorem RefDo_any {va : Option Addr} {n cap N : Nat} {f : Nat → Int} {w : World} (hM : MineAt N w va n f) (k i x y o : Int) :
    Calls Tryz.prog 103 #[.slice va n cap, accV k i x y o] w fun e w' => e = .returned (.tuple #[accV (z5 n k i k) (z5 n k i i) (z5 n k i x) (z5 n k i y) (z5 n k i (f i.toNat)), .bool (decide (okD n k i))]) ∧ MineAt N w' va n (wordsQ n f k i x y) ∧ OnlyO va w w' := by
  unfold wordsQ z5
  by_cases h : okD n k i
  · simp only [if_pos h, decide_eq_true h]
    obtain ⟨j, rfl⟩ : ∃ j : Nat, i = j := ⟨i.toNat, by unfold okD at h; omega⟩
    simp only [Int.toNat_natCast]
    unfold okD at h
    rcases hM with e | ⟨R, rfl, hR, hr⟩
    · omega
    · exact (RefDo_good hr k j (by omega) x y o (by omega)).mono fun e w' ⟨h1, h2, h3⟩ => ⟨h1, .inr ⟨R, rfl, hR, h2⟩, h3.os, h3.tape, h3.output, h3.size, fun k hk ne => h3.block k hk (fun e => ne (by rw [e]))⟩
  · simp only [if_neg h, decide_eq_false h]
    exact (RefDo_bad va n cap w k i x y o h).mono fun e w' ⟨h1, h2⟩ => ⟨h1, hM.below h2, h2.os, h2.tape, h2.output, h2.size, fun k hk _ => h2.block k hk⟩
theorem OnlyO.sav {va : Option Addr} {w w' : World} (h : OnlyO va w w') {S : Nat → Prop} (hs : ∀ k, va = some ⟨k, 0, none⟩ → S k) : Sav S w w' := ⟨h.os, h.tape, h.output, h.size, fun k hk hn => h.block k hk (fun e => hn (hs k e))⟩
/-- What the document's hand may turn. -/
def RS (X : Nat) (va : Option Addr) : Nat → Prop := fun k => k = X ∨ va = some ⟨k, 0, none⟩
theorem MineAt.other {N : Nat} {w w' : World} {va : Option Addr} {n : Nat} {f : Nat → Int} (h : MineAt N w va n f) (e : ∀ R, va = some ⟨R, 0, none⟩ → R < w.heap.size → w'.heap[R]? = w.heap[R]?) : MineAt N w' va n f := by
  rcases h with h | ⟨R, rfl, hR, hr⟩
  · exact .inl h
  · exact .inr ⟨R, rfl, hR, hr.other (e R rfl hr.lt)⟩
/-- The document's hand at X: its configuration, its words, and the access. -/
structure RHandAt (w : World) (X : Nat) (va : Option Addr) (n cap N : Nat) (f : Nat → Int) (a b c d k i x y o : Int) : Prop where
  nL : ∀ R, va = some ⟨R, 0, none⟩ → X ≠ R
  box : w.heap[X]? = some (.cells #[.int .i64 a, .int .i64 b, .int .i64 c, .int .i64 d, .slice va n cap, .int .i64 k, .int .i64 i, .int .u64 x, .int .u64 y, .int .u64 o] 59 (0, 0))
  mine : MineAt N w va n f
namespace RHandAt
variable {w w' : World} {X : Nat} {va : Option Addr} {n cap N : Nat} {f f' : Nat → Int} {a b c d k i x y o : Int}
theorem cells (h : RHandAt w X va n cap N f a b c d k i x y o) : w.cell? ⟨X, 4, none⟩ = some (.slice va n cap) ∧ BoxAt w X a b c d ∧ w.cell? ⟨X, 5, none⟩ = some (.int .i64 k) ∧ w.cell? ⟨X, 6, none⟩ = some (.int .i64 i) ∧ w.cell? ⟨X, 7, none⟩ = some (.int .u64 x) ∧ w.cell? ⟨X, 8, none⟩ = some (.int .u64 y) ∧ w.cell? ⟨X, 9, none⟩ = some (.int .u64 o) ∧ (∀ j, w.frozen? ⟨X, j, none⟩ = false) := by
  have h := h.box
  refine ⟨by simp [World.cell?, h], ⟨by simp [World.cell?, h], by simp [World.cell?, h], by simp [World.cell?, h], by simp [World.cell?, h]⟩, by simp [World.cell?, h], by simp [World.cell?, h], by simp [World.cell?, h], by simp [World.cell?, h], by simp [World.cell?, h], fun j => by simp [World.frozen?, h]⟩
theorem lt (h : RHandAt w X va n cap N f a b c d k i x y o) : X < w.heap.size := (Array.getElem?_eq_some_iff.1 h.box).1
theorem other (h : RHandAt w X va n cap N f a b c d k i x y o) (e1 : w'.heap[X]? = w.heap[X]?) (e2 : ∀ R, va = some ⟨R, 0, none⟩ → R < w.heap.size → w'.heap[R]? = w.heap[R]?) : RHandAt w' X va n cap N f a b c d k i x y o := ⟨h.nL, e1.trans h.box, h.mine.other e2⟩
theorem below (h : RHandAt w X va n cap N f a b c d k i x y o) (hb : Below w.heap.size w w') : RHandAt w' X va n cap N f a b c d k i x y o := h.other (hb.block _ h.lt) (fun R _ hR => hb.block R hR)
theorem drew (h : RHandAt w X va n cap N f a b c d k i x y o) : RHandAt w.drew X va n cap N f a b c d k i x y o := h.other rfl (fun _ _ _ => rfl)
theorem act (h : RHandAt w X va n cap N f a b c d k i x y o) (ho : OnlyO va w w') (hm : MineAt N w' va n f') : RHandAt w' X va n cap N f' a b c d k i x y o := ⟨h.nL, (ho.block X h.lt (fun e => h.nL X e rfl)).trans h.box, hm⟩
theorem put (h : RHandAt w X va n cap N f a b c d k i x y o) {C : Nat} (h0 : X ≠ C) (h1 : ∀ R, va = some ⟨R, 0, none⟩ → R < w.heap.size → R ≠ C) (k' i' x' y' o' : Int) : RHandAt (put5 w C k' i' x' y' o') X va n cap N f a b c d k i x y o :=
  h.other (heap_put5 _ _ _ _ _ _ _ h0) (fun R e hR => heap_put5 _ _ _ _ _ _ _ (h1 R e hR))
theorem note (h : RHandAt w X va n cap N f a b c d k i x y o) (k' i' x' y' o' : Int) : RHandAt (putH w X k' i' x' y' o') X va n cap N f a b c d k' i' x' y' o' := by
  refine ⟨h.nL, ?_, h.mine.other (fun R e _ => heap_putH _ _ _ _ _ _ _ (h.nL R e).symm)⟩
  have h := h.box
  simp [World.setCell, Array.getElem?_modify, h]
end RHandAt
/-- What a call of the document's hand answers. -/
def RPost (w : World) (X : Nat) (va : Option Addr) (n cap N : Nat) (f' : Nat → Int) (a b c d k i x y o : Int) (v : Value) (e : Ending) (w' : World) : Prop :=
  e = .returned v ∧ RHandAt w' X va n cap N f' a b c d k i x y o ∧ Sav (RS X va) w w'
set_option maxHeartbeats 3200000 in
theorem rDo_c {X : Nat} {va : Option Addr} {n cap N : Nat} {f : Nat → Int} {a b c d k0 i0 x0 y0 o0 : Int} {w : World} (hH : RHandAt w X va n cap N f a b c d k0 i0 x0 y0 o0) (hL : ∀ R, va = some ⟨R, 0, none⟩ → R < w.heap.size) (k i x y o : Int) :
    Calls Tryz.prog 85 #[.pointer (some ⟨X, 0, none⟩), accV k i x y o] w (RPost w X va n cap N (wordsQ n f k i x y) a b c d (z5 n k i k) (z5 n k i i) (z5 n k i x) (z5 n k i y) (z5 n k i (f i.toNat)) (.int .u64 (z5 n k i (f i.toNat)))) := by
  have HD : Hid (∀ W, MineAt N W va n f → _) := Lib.hid (fun W hW => RefDo_any (w := W) (cap := cap) hW k i x y o)
  have HF : Hid (RHandAt (w.alloc (.cells #[.int .i64 k, .int .i64 i, .int .u64 x, .int .u64 y, .int .u64 o] 50)).drew X va n cap N f a b c d k0 i0 x0 y0 o0) := Lib.hid (hH.below (below_new _ _)).drew
  have HX : Hid (Acc5 (w.alloc (.cells #[.int .i64 k, .int .i64 i, .int .u64 x, .int .u64 y, .int .u64 o] 50)).drew w.heap.size k i x y o) := Lib.hid (Acc5.new w k i x y o)
  have HQ : Hid (Sav (RS X va) w (w.alloc (.cells #[.int .i64 k, .int .i64 i, .int .u64 x, .int .u64 y, .int .u64 o] 50)).drew) := Lib.hid (Sav.of (below_new w _).drew)
  have HL := Lib.hid hL
  have hlt : X < w.heap.size := hH.lt
  generalize wordsQ n f k i x y = f' at *
  generalize decide (okD n k i) = r at *
  generalize z5 n k i k = K1 at *
  generalize z5 n k i i = I1 at *
  generalize z5 n k i x = X1 at *
  generalize z5 n k i y = Y1 at *
  generalize z5 n k i (f i.toNat) = O1 at *
  clear hH hL
  obtain ⟨h4, _⟩ := HF.out.cells
  obtain ⟨b0, b1, b2, b3, b4, _⟩ := HX.out.cells
  have hnB : X ≠ w.heap.size := by omega
  have hnC : X ≠ w.heap.size + 1 := by omega
  go_enter Tryz.func85, Tryz.ntmps85
  go_wp2_with fail
  refine wp_region_held_drew (S := (fun w' => w'.cell? ⟨X, 4, none⟩ = some (.slice va n cap) ∧ w'.cell? ⟨w.heap.size, 0, none⟩ = some (.int .i64 k) ∧ w'.cell? ⟨w.heap.size, 1, none⟩ = some (.int .i64 i) ∧ w'.cell? ⟨w.heap.size, 2, none⟩ = some (.int .u64 x) ∧ w'.cell? ⟨w.heap.size, 3, none⟩ = some (.int .u64 y) ∧ w'.cell? ⟨w.heap.size, 4, none⟩ = some (.int .u64 o))) (by kernel_rfl) ?_ (fun hHeld => ?_)
  · exact ⟨h4, b0, b1, b2, b3, b4⟩
  refine wpAnyH_take (i := 0) (oi := { dst := some 8, op := Op.move (Operand.tmp 0), type := 33, pos := "ref.go:20", after := #[], guard := none }) (v := ?vp0) rfl (by kernel_rfl) (by kernel_rfl) (by kernel_rfl) (fun _ _ _ h => h) (Or.inl ⟨by rfl, ?hyp0⟩) hHeld ?_
  case hyp0 => (intro w hSw; (try dsimp only at hSw); go_simp; (try with_reducible rfl))
  try simp only [Act.put, List.setIfInBounds_toArray, List.set_cons_zero, List.set_cons_succ]
  refine wpAnyH_take (i := 1) (oi := { dst := some 9, op := Op.nilCheck (Operand.tmp 8), type := 0, pos := "ref.go:20", after := #[{ on := 0, ground := Ground.data }], guard := none }) (v := ?vp1) rfl (by kernel_rfl) (by kernel_rfl) (by kernel_rfl) (fun _ _ _ h => h) (Or.inl ⟨by rfl, ?hyp1⟩) hHeld ?_
  case hyp1 => (intro w hSw; (try dsimp only at hSw); go_simp; (try with_reducible rfl))
  try simp only [Act.put, List.setIfInBounds_toArray, List.set_cons_zero, List.set_cons_succ]
  refine wpAnyH_take (i := 2) (oi := { dst := some 10, op := Op.fieldAddr 59 (Operand.tmp 9) 1, type := 0, pos := "ref.go:20", after := #[{ on := 1, ground := Ground.data }], guard := none }) (v := ?vp2) rfl (by kernel_rfl) (by kernel_rfl) (by kernel_rfl) (fun _ _ _ h => h) (Or.inl ⟨by rfl, ?hyp2⟩) hHeld ?_
  case hyp2 => (intro w hSw; (try dsimp only at hSw); go_simp; (try with_reducible rfl))
  try simp only [Act.put, List.setIfInBounds_toArray, List.set_cons_zero, List.set_cons_succ]
  refine wpAnyH_take (i := 3) (oi := { dst := some 11, op := Op.load 24 (Operand.tmp 10), type := 24, pos := "ref.go:20", after := #[{ on := 2, ground := Ground.data }], guard := none }) (v := ?vp3) rfl (by kernel_rfl) (by kernel_rfl) (by kernel_rfl) (fun _ _ _ h => h) (Or.inl ⟨by rfl, ?hyp3⟩) hHeld ?_
  case hyp3 => (intro w hSw; (try dsimp only at hSw); go_simp; (try with_reducible rfl))
  try simp only [Act.put, List.setIfInBounds_toArray, List.set_cons_zero, List.set_cons_succ]
  refine wpAnyH_take (i := 4) (oi := { dst := some 12, op := Op.load 50 (Operand.tmp 3), type := 50, pos := "ref.go:20", after := #[], guard := none }) (v := ?vp4) rfl (by kernel_rfl) (by kernel_rfl) (by kernel_rfl) (fun _ _ _ h => h) (Or.inl ⟨by rfl, ?hyp4⟩) hHeld ?_
  case hyp4 => (intro w hSw; (try dsimp only at hSw); go_simp; (try with_reducible rfl))
  try simp only [Act.put, List.setIfInBounds_toArray, List.set_cons_zero, List.set_cons_succ]
  clear h4 b0 b1 b2 b3 b4
  refine wpAnyH_ready (rs := [5, 9]) (by kernel_rfl) (by simp) ?_
  refine AllReadyH.cons (o := { dst := some 13, op := Op.call { callee := Callee.value (Operand.func 103), args := #[Operand.tmp 11, Operand.tmp 12], argTypes := #[24, 50] }, type := 66, pos := "ref.go:20", after := #[{ on := 3, ground := Ground.data }, { on := 4, ground := Ground.data }], guard := none }) rfl (fun K hK => ?_) ?_
  · go_simp
    refine (HD.out _ HF.out.mine).mono ?_
    rintro e V ⟨rfl, hM, ho⟩
    have HF1 := Lib.hid (HF.out.act ho hM)
    have HX1 := Lib.hid (HX.out.other (ho.block _ HX.out.lt (fun e => by have := HL.out _ e; omega)))
    have HQ1 := Lib.hid (HQ.out.trans (ho.sav (S := RS X va) (fun k e => .inr e)))
    clear hM ho HF HX HQ HD hHeld
    obtain ⟨h4, _, h5, h6, h7, h8, h9, hf⟩ := HF1.out.cells
    obtain ⟨b0, b1, b2, b3, b4, _⟩ := HX1.out.cells
    refine hK.out _ _ ?_ (fun hHeld => ?_)
    · exact ⟨h4, b0, b1, b2, b3, b4⟩
    clear hK K
    try simp only [Act.put, List.setIfInBounds_toArray, List.set_cons_zero, List.set_cons_succ]
    refine wpAnyH_take (i := 6) (oi := { dst := some 7, op := Op.move (Operand.tmp 13), type := 66, pos := "ref.go:20", after := #[{ on := 5, ground := Ground.data }], guard := none }) (v := ?va6) rfl (by kernel_rfl) (by kernel_rfl) (by kernel_rfl) (fun _ _ _ h => h) (Or.inl ⟨by rfl, ?hya6⟩) hHeld ?_
    case hya6 => (intro w hSw; (try dsimp only at hSw); go_simp; (try with_reducible rfl))
    try simp only [Act.put, List.setIfInBounds_toArray, List.set_cons_zero, List.set_cons_succ]
    refine wpAnyH_take (i := 7) (oi := { dst := some 14, op := Op.extract (Operand.tmp 7) 0, type := 50, pos := "ref.go:20", after := #[{ on := 6, ground := Ground.data }], guard := none }) (v := ?va7) rfl (by kernel_rfl) (by kernel_rfl) (by kernel_rfl) (fun _ _ _ h => h) (Or.inl ⟨by rfl, ?hya7⟩) hHeld ?_
    case hya7 => (intro w hSw; (try dsimp only at hSw); go_simp; (try with_reducible rfl))
    try simp only [Act.put, List.setIfInBounds_toArray, List.set_cons_zero, List.set_cons_succ]
    refine wpAnyH_take (i := 8) (oi := { dst := some 15, op := Op.extract (Operand.tmp 7) 1, type := 4, pos := "ref.go:20", after := #[{ on := 6, ground := Ground.data }, { on := 10, ground := Ground.gcOnly Departure.lateStores }], guard := none }) (v := ?va8) rfl (by kernel_rfl) (by kernel_rfl) (by kernel_rfl) (fun _ _ _ h => h) (Or.inl ⟨by rfl, ?hya8⟩) hHeld ?_
    case hya8 => (intro w hSw; (try dsimp only at hSw); go_simp; (try with_reducible rfl))
    try simp only [Act.put, List.setIfInBounds_toArray, List.set_cons_zero, List.set_cons_succ]
    refine wpAnyH_ready (rs := [9]) (by kernel_rfl) (by simp) ?_
    refine AllReadyH.cons (o := { dst := some 5, op := Op.alloc 50, type := 0, pos := "ref.go:20", after := #[], guard := none }) rfl (fun K hK => ?_) AllReadyH.nil
    go_simp
    have HF2 := Lib.hid (HF1.out.below (below_new V (.cells #[.int .i64 0, .int .i64 0, .int .u64 0, .int .u64 0, .int .u64 0] 50)))
    have HX2 := Lib.hid (HX1.out.below (below_new V (.cells #[.int .i64 0, .int .i64 0, .int .u64 0, .int .u64 0, .int .u64 0] 50)))
    clear h4 h5 h6 h7 h8 h9 hf b0 b1 b2 b3 b4 hHeld
    obtain ⟨h4, _, h5, h6, h7, h8, h9, hf⟩ := HF2.out.cells
    obtain ⟨b0, b1, b2, b3, b4, _⟩ := HX2.out.cells
    refine hK.out _ _ ?_ (fun hHeld => ?_)
    · exact ⟨h4, b0, b1, b2, b3, b4⟩
    clear hK K
    try simp only [Act.put, List.setIfInBounds_toArray, List.set_cons_zero, List.set_cons_succ]
    refine wpAnyH_ready (rs := [10]) (by kernel_rfl) (by simp) ?_
    refine AllReadyH.cons (o := { dst := none, op := Op.store 50 (Operand.tmp 5) (Operand.tmp 14), type := 0, pos := "ref.go:20", after := #[{ on := 9, ground := Ground.data }, { on := 7, ground := Ground.data }, { on := 5, ground := Ground.chain }, { on := 0, ground := Ground.phase }, { on := 1, ground := Ground.phase }, { on := 2, ground := Ground.phase }, { on := 3, ground := Ground.phase }, { on := 4, ground := Ground.phase }, { on := 5, ground := Ground.phase }, { on := 6, ground := Ground.phase }, { on := 7, ground := Ground.phase }, { on := 8, ground := Ground.textOnly Departure.lateStores }, { on := 9, ground := Ground.phase }], guard := none }) rfl (fun K hK => ?_) AllReadyH.nil
    clear h4 h5 h6 h7 h8 h9 hf b0 b1 b2 b3 b4 HF2 HX2 hHeld
    have hvn : X ≠ V.heap.size := by have := HF1.out.lt; omega
    have hvl : X < V.heap.size := HF1.out.lt
    go_simp
    have HF2 := Lib.hid (HF1.out.below (below_new V (.cells #[.int .i64 K1, .int .i64 I1, .int .u64 X1, .int .u64 Y1, .int .u64 O1] 50)))
    have HX2 := Lib.hid (HX1.out.below (below_new V (.cells #[.int .i64 K1, .int .i64 I1, .int .u64 X1, .int .u64 Y1, .int .u64 O1] 50)))
    obtain ⟨h4, _, h5, h6, h7, h8, h9, hf⟩ := HF2.out.cells
    obtain ⟨b0, b1, b2, b3, b4, _⟩ := HX2.out.cells
    refine hK.out _ _ ?_ (fun hHeld => ?_)
    · exact ⟨h4, b0, b1, b2, b3, b4⟩
    clear hK K
    try simp only [Act.put, List.setIfInBounds_toArray, List.set_cons_zero, List.set_cons_succ]
    refine wpAnyH_take (i := 11) (oi := { dst := some 6, op := Op.assign (Operand.tmp 15), type := 4, pos := "ref.go:20", after := #[{ on := 8, ground := Ground.data }, { on := 10, ground := Ground.chain }, { on := 0, ground := Ground.phase }, { on := 1, ground := Ground.phase }, { on := 2, ground := Ground.phase }, { on := 3, ground := Ground.phase }, { on := 4, ground := Ground.phase }, { on := 5, ground := Ground.phase }, { on := 6, ground := Ground.phase }, { on := 7, ground := Ground.phase }, { on := 8, ground := Ground.phase }, { on := 9, ground := Ground.phase }, { on := 10, ground := Ground.phase }], guard := none }) (v := ?va11) rfl (by kernel_rfl) (by kernel_rfl) (by kernel_rfl) (fun _ _ _ h => h) (Or.inl ⟨by rfl, ?hya11⟩) hHeld ?_
    case hya11 => (intro w hSw; (try dsimp only at hSw); go_simp; (try with_reducible rfl))
    try simp only [Act.put, List.setIfInBounds_toArray, List.set_cons_zero, List.set_cons_succ]
    refine wpAnyH_done (by kernel_rfl) ?_ _
    clear hHeld h4 h5 h6 h7 h8 h9 hf b0 b1 b2 b3 b4 HX2
    obtain ⟨h4, _, h5, h6, h7, h8, h9, hf⟩ := HF1.out.cells
    go_wp2_with fail
    go_ret
    first | exact ⟨rfl, (HF1.out.note K1 I1 X1 Y1 O1).below (below_new _ _), (HQ1.out.putH (C := X) (.inl (.inl rfl)) K1 I1 X1 Y1 O1).trans (Sav.of (below_new _ _))⟩ | exact ⟨rfl, HF2.out.note K1 I1 X1 Y1 O1, (HQ1.out.trans (Sav.of (below_new _ _))).putH (C := X) (.inl (.inl rfl)) K1 I1 X1 Y1 O1⟩
  refine AllReadyH.cons (o := { dst := some 5, op := Op.alloc 50, type := 0, pos := "ref.go:20", after := #[], guard := none }) rfl (fun K hK => ?_) AllReadyH.nil
  go_simp
  have HF0 := Lib.hid (HF.out.below (below_new _ (.cells #[.int .i64 0, .int .i64 0, .int .u64 0, .int .u64 0, .int .u64 0] 50)))
  have HX0 := Lib.hid (HX.out.below (below_new _ (.cells #[.int .i64 0, .int .i64 0, .int .u64 0, .int .u64 0, .int .u64 0] 50)))
  have HY0 : Hid (Acc5 ((w.alloc (.cells #[.int .i64 k, .int .i64 i, .int .u64 x, .int .u64 y, .int .u64 o] 50)).drew.alloc (.cells #[.int .i64 0, .int .i64 0, .int .u64 0, .int .u64 0, .int .u64 0] 50)) (w.heap.size + 1) 0 0 0 0 0) := Lib.hid (by have := Acc5.new (w.alloc (.cells #[.int .i64 k, .int .i64 i, .int .u64 x, .int .u64 y, .int .u64 o] 50)).drew 0 0 0 0 0; simpa using this)
  have HQ0 := Lib.hid (HQ.out.trans (Sav.of (S := RS X va) (below_new _ (.cells #[.int .i64 0, .int .i64 0, .int .u64 0, .int .u64 0, .int .u64 0] 50))))
  clear HF HX HQ hHeld
  obtain ⟨h4, _, h5, h6, h7, h8, h9, hf⟩ := HF0.out.cells
  obtain ⟨b0, b1, b2, b3, b4, _⟩ := HX0.out.cells
  refine hK.out _ _ ?_ (fun hHeld => ?_)
  · exact ⟨h4, b0, b1, b2, b3, b4⟩
  clear hK K
  try simp only [Act.put, List.setIfInBounds_toArray, List.set_cons_zero, List.set_cons_succ]
  refine wpAnyH_ready (rs := [5]) (by kernel_rfl) (by simp) ?_
  refine AllReadyH.cons (o := { dst := some 13, op := Op.call { callee := Callee.value (Operand.func 103), args := #[Operand.tmp 11, Operand.tmp 12], argTypes := #[24, 50] }, type := 66, pos := "ref.go:20", after := #[{ on := 3, ground := Ground.data }, { on := 4, ground := Ground.data }], guard := none }) rfl (fun K hK => ?_) AllReadyH.nil
  go_simp
  refine (HD.out _ HF0.out.mine).mono ?_
  rintro e V ⟨rfl, hM, ho⟩
  have HF1 := Lib.hid (HF0.out.act ho hM)
  have HX1 := Lib.hid (HX0.out.other (ho.block _ HX0.out.lt (fun e => by have := HL.out _ e; omega)))
  have HY1 := Lib.hid (HY0.out.other (ho.block _ HY0.out.lt (fun e => by have := HL.out _ e; omega)))
  have HQ1 := Lib.hid (HQ0.out.trans (ho.sav (S := RS X va) (fun k e => .inr e)))
  clear hM ho HF0 HX0 HY0 HQ0 HD hHeld h4 h5 h6 h7 h8 h9 hf b0 b1 b2 b3 b4
  obtain ⟨h4, _, h5, h6, h7, h8, h9, hf⟩ := HF1.out.cells
  obtain ⟨b0, b1, b2, b3, b4, _⟩ := HX1.out.cells
  refine hK.out _ _ ?_ (fun hHeld => ?_)
  · exact ⟨h4, b0, b1, b2, b3, b4⟩
  clear hK K
  try simp only [Act.put, List.setIfInBounds_toArray, List.set_cons_zero, List.set_cons_succ]
  refine wpAnyH_take (i := 6) (oi := { dst := some 7, op := Op.move (Operand.tmp 13), type := 66, pos := "ref.go:20", after := #[{ on := 5, ground := Ground.data }], guard := none }) (v := ?vb6) rfl (by kernel_rfl) (by kernel_rfl) (by kernel_rfl) (fun _ _ _ h => h) (Or.inl ⟨by rfl, ?hyb6⟩) hHeld ?_
  case hyb6 => (intro w hSw; (try dsimp only at hSw); go_simp; (try with_reducible rfl))
  try simp only [Act.put, List.setIfInBounds_toArray, List.set_cons_zero, List.set_cons_succ]
  refine wpAnyH_take (i := 7) (oi := { dst := some 14, op := Op.extract (Operand.tmp 7) 0, type := 50, pos := "ref.go:20", after := #[{ on := 6, ground := Ground.data }], guard := none }) (v := ?vb7) rfl (by kernel_rfl) (by kernel_rfl) (by kernel_rfl) (fun _ _ _ h => h) (Or.inl ⟨by rfl, ?hyb7⟩) hHeld ?_
  case hyb7 => (intro w hSw; (try dsimp only at hSw); go_simp; (try with_reducible rfl))
  try simp only [Act.put, List.setIfInBounds_toArray, List.set_cons_zero, List.set_cons_succ]
  refine wpAnyH_take (i := 8) (oi := { dst := some 15, op := Op.extract (Operand.tmp 7) 1, type := 4, pos := "ref.go:20", after := #[{ on := 6, ground := Ground.data }, { on := 10, ground := Ground.gcOnly Departure.lateStores }], guard := none }) (v := ?vb8) rfl (by kernel_rfl) (by kernel_rfl) (by kernel_rfl) (fun _ _ _ h => h) (Or.inl ⟨by rfl, ?hyb8⟩) hHeld ?_
  case hyb8 => (intro w hSw; (try dsimp only at hSw); go_simp; (try with_reducible rfl))
  try simp only [Act.put, List.setIfInBounds_toArray, List.set_cons_zero, List.set_cons_succ]
  refine wpAnyH_ready (rs := [10]) (by kernel_rfl) (by simp) ?_
  refine AllReadyH.cons (o := { dst := none, op := Op.store 50 (Operand.tmp 5) (Operand.tmp 14), type := 0, pos := "ref.go:20", after := #[{ on := 9, ground := Ground.data }, { on := 7, ground := Ground.data }, { on := 5, ground := Ground.chain }, { on := 0, ground := Ground.phase }, { on := 1, ground := Ground.phase }, { on := 2, ground := Ground.phase }, { on := 3, ground := Ground.phase }, { on := 4, ground := Ground.phase }, { on := 5, ground := Ground.phase }, { on := 6, ground := Ground.phase }, { on := 7, ground := Ground.phase }, { on := 8, ground := Ground.textOnly Departure.lateStores }, { on := 9, ground := Ground.phase }], guard := none }) rfl (fun K hK => ?_) AllReadyH.nil
  obtain ⟨c0, c1, c2, c3, c4, cf⟩ := HY1.out.cells
  go_simp
  have HF2 := Lib.hid (HF1.out.put (C := w.heap.size + 1) (by omega) (fun R e hR => by have := HL.out R e; omega) K1 I1 X1 Y1 O1)
  have HX2 : Hid (Acc5 (put5 V (w.heap.size + 1) K1 I1 X1 Y1 O1) w.heap.size k i x y o) := Lib.hid (HX1.out.other (heap_put5 _ _ _ _ _ _ _ (by omega)))
  have HY2 := Lib.hid (HY1.out.put K1 I1 X1 Y1 O1)
  have HQ2 := Lib.hid (HQ1.out.put (C := w.heap.size + 1) (.inr (by omega)) K1 I1 X1 Y1 O1)
  clear h4 h5 h6 h7 h8 h9 hf b0 b1 b2 b3 b4 c0 c1 c2 c3 c4 cf HF1 HX1 HY1 HQ1 hHeld
  obtain ⟨h4, _, h5, h6, h7, h8, h9, hf⟩ := HF2.out.cells
  obtain ⟨b0, b1, b2, b3, b4, _⟩ := HX2.out.cells
  obtain ⟨c0, c1, c2, c3, c4, cf⟩ := HY2.out.cells
  refine hK.out _ _ ?_ (fun hHeld => ?_)
  · exact ⟨h4, b0, b1, b2, b3, b4⟩
  clear hK K
  try simp only [Act.put, List.setIfInBounds_toArray, List.set_cons_zero, List.set_cons_succ]
  refine wpAnyH_take (i := 11) (oi := { dst := some 6, op := Op.assign (Operand.tmp 15), type := 4, pos := "ref.go:20", after := #[{ on := 8, ground := Ground.data }, { on := 10, ground := Ground.chain }, { on := 0, ground := Ground.phase }, { on := 1, ground := Ground.phase }, { on := 2, ground := Ground.phase }, { on := 3, ground := Ground.phase }, { on := 4, ground := Ground.phase }, { on := 5, ground := Ground.phase }, { on := 6, ground := Ground.phase }, { on := 7, ground := Ground.phase }, { on := 8, ground := Ground.phase }, { on := 9, ground := Ground.phase }, { on := 10, ground := Ground.phase }], guard := none }) (v := ?vb11) rfl (by kernel_rfl) (by kernel_rfl) (by kernel_rfl) (fun _ _ _ h => h) (Or.inl ⟨by rfl, ?hyb11⟩) hHeld ?_
  case hyb11 => (intro w hSw; (try dsimp only at hSw); go_simp; (try with_reducible rfl))
  try simp only [Act.put, List.setIfInBounds_toArray, List.set_cons_zero, List.set_cons_succ]
  refine wpAnyH_done (by kernel_rfl) ?_ _
  clear hHeld b0 b1 b2 b3 b4 HX2
  go_wp2_with fail
  go_ret
  exact ⟨rfl, HF2.out.note K1 I1 X1 Y1 O1, HQ2.out.putH (C := X) (.inl (.inl rfl)) K1 I1 X1 Y1 O1⟩
end Go.Proofs.YthdcapkchjamoaaGreatDoor
