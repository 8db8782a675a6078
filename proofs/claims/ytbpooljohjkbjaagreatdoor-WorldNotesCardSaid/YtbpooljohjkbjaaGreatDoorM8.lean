/- Laid together: WColP, WCol, LispU, LispWk, LispSm, LispMap. -/
import Derived.Test.YtbpooljohjkbjaaGreatDoorM6
import Derived.Test.YtbpooljohjkbjaaGreatDoorM1
import Derived.Test.YtbpooljohjkbjaaGreatDoorM5
/- What the collector's pick carries; what is told of it. -/
namespace Go.Proofs.YtbpooljohjkbjaaGreatDoor
open Go Go.RowKit
set_option maxRecDepth 100000
attribute [local go_sem ↓] Go.wp_at_zero Go.wp_at_succ
theorem col_told (C : Cf) (s : Dy) (x : Co) : toldN C.b (colS C s x).2.1 (colS C s x).2.2 = colNts C x (colS C s x).2.1 (colS C s x).2.2 ∧ ((colS C s x).2.2 = 0 ∨ (colS C s x).2.2 = 1 ∨ (colS C s x).2.2 = 2 ∨ (colS C s x).2.2 = 3 ∨ (colS C s x).2.2 = 5) := by
  have key : ∀ (y : Co) (wh : Int), (wh = 0 ∨ wh = 1 ∨ wh = 2 ∨ wh = 3 ∨ wh = 5) → (wh = 2 ∨ wh = 5 → y.tl = x.c) → toldN C.b y wh = colNts C x y wh := by
    intro y wh h1 h2
    unfold toldN colNts
    rcases h1 with rfl | rfl | rfl | rfl | rfl
    · simp
    · simp
    · simp [h2 (.inl rfl)]
    · simp
    · simp [h2 (.inr rfl)]
  have hc : cycN C x = 0 ∨ cycN C x = 3 := by unfold cycN; split <;> simp
  have hcl : ∀ z : Co, z.c = x.c → (cycN C z = 0 ∨ cycN C z = 3) := fun z _ => by unfold cycN; split <;> simp
  unfold colS
  split
  · exact ⟨key _ _ (.inl rfl) (fun h => by simp at h), .inl rfl⟩
  split
  · exact ⟨key _ _ (.inl rfl) (fun h => by simp at h), .inl rfl⟩
  split
  · dsimp only
    cases (shutS C s.clr x).2.2.1
    · exact ⟨key _ _ (.inl rfl) (fun h => by simp at h), .inl rfl⟩
    · exact ⟨key _ _ (.inr (.inl rfl)) (fun h => by simp at h), .inr (.inl rfl)⟩
  · dsimp only
    have hs : (sweepS C s.clr x).2.2.1 = 0 ∨ (sweepS C s.clr x).2.2.1 = 3 ∨ (((sweepS C s.clr x).2.2.1 = 2 ∨ (sweepS C s.clr x).2.2.1 = 5) ∧ (sweepS C s.clr x).2.1.tl = x.c) := by
      unfold sweepS
      split
      · dsimp only
        split
        · exact .inl rfl
        split
        · exact .inl rfl
        · rcases hc with h | h
          · exact .inl h
          · exact .inr (.inl h)
      split
      · exact .inl rfl
      split
      · exact .inl rfl
      split
      · refine .inr (.inr ⟨?_, ?_⟩)
        · dsimp only
          rcases hc with h | h <;> rw [h]
          · exact .inl rfl
          · exact .inr rfl
        · dsimp only [nextSwept]
          split <;> rfl
      split
      · rcases hc with h | h
        · exact .inl h
        · exact .inr (.inl h)
      · exact .inl rfl
    generalize (sweepS C s.clr x).2.1 = y at *
    generalize (sweepS C s.clr x).2.2.1 = wh at *
    refine ⟨key y wh (by omega) (fun h => ?_), by omega⟩
    rcases hs with h' | h' | h'
    · omega
    · omega
    · exact h'.2
theorem col_dy (C : Cf) {s : Dy} {f : Nat → Int} (h : s.f = f) (x : Co) : colS C s x = colS C (Dy.of f) x := by subst h; rfl
theorem lisp_dy (C : Cf) {s : Dy} {f : Nat → Int} (h : s.f = f) (m : Int) (x : Mu) : lispS C s m x = lispS C (Dy.of f) m x := by subst h; rfl
structure StK (w W : World) (q : WoK) (C : Cf) (S : Ws) (s : Dy) (E base K : Nat) (y : Co) : Prop where
  st : St0 w W q C S s E base (.slice none 0 0) []
  co : CoAt W K y
  bK : base ≤ K
  EK : K ≠ E
namespace StK
variable {w W V : World} {q : WoK} {C : Cf} {S : Ws} {s s' : Dy} {E base K : Nat} {y : Co}
theorem below (h : StK w W q C S s E base K y) (hb : Below W.heap.size W V) : StK w V q C S s E base K y :=
  ⟨h.st.below hb, h.co.below hb, h.bK, h.EK⟩
theorem drew (h : StK w W q C S s E base K y) : StK w W.drew q C S s E base K y := h.below (Below.refl _ _).drew
theorem step (h : StK w W q C S s E base K y) {u : Value} {e : Ending} (hp : HP W q.H q.A q.G C s' u e V) : e = .returned u ∧ StK w V q C { S with f := s'.f } s' E base K y := by
  obtain ⟨he, hs⟩ := h.st.step hp
  have n := h.st.wo.ne; have := h.st.hb; have := h.bK
  exact ⟨he, hs, h.co.savH hp.2.2 (fun e => by have := n.h.2; omega) (fun e => by have := n.g.2; omega), h.bK, h.EK⟩
theorem putK (h : StK w W q C S s E base K y) (x : Co) : StK w (put9 W K x.l x.j x.c x.m x.a x.p x.fd x.tl x.cy) q C S s E base K x := by
  have h0 := h.st; have n := h0.wo.ne; have hb := h0.hb; have bE := h0.bE; have bK := h.bK
  have key : ∀ k, k ≠ K → (put9 W K x.l x.j x.c x.m x.a x.p x.fd x.tl x.cy).heap[k]? = W.heap[k]? := fun k hk => heap_put9 _ _ _ _ _ _ _ _ _ _ _ hk
  have hh := n.h
  exact ⟨⟨h0.wo.out (h0.wo.env.other (key _ (by have := h0.wo.glo.1; have := hh.1; have := hh.2; omega)) (key _ (by have := h0.wo.glo.2; have := hh.1; have := hh.2; omega))) (by simp [World.setCell]) (fun k _ h2 => key k (by omega)), h0.ha.other (key _ (by have := n.h.2; omega)) (key _ (by have := n.a.2; omega)) (key _ (by have := n.g.2; omega)), h0.ev.other (key _ h.EK.symm), World.ownsRow_nil _ _ _ _, h0.sav.put9 (.inl (.inr bK)) _ _ _ _ _ _ _ _ _, hb, bE, h0.rE⟩, h.co.put .., bK, h.EK⟩
end StK
namespace St0
variable {w W V : World} {q : WoK} {C : Cf} {S : Ws} {s s' : Dy} {E base : Nat}
theorem newC (h : St0 w W q C S s E base (.slice none 0 0) []) (y : Co) : StK w (W.alloc (.cells #[.int .i64 y.l, .int .i64 y.j, .int .i64 y.c, .int .i64 y.m, .int .u64 y.a, .int .u64 y.p, .bool y.fd, .int .i64 y.tl, .int .i64 y.cy] 49)) q C S s E base W.heap.size y :=
  ⟨h.below (below_new W _), Col9.new W y.l y.j y.c y.m y.a y.p y.fd y.tl y.cy, by have := h.bE; have := h.ev.lt; omega, by have := h.ev.lt; omega⟩
theorem putC (h : St0 w W q C S s E base (.slice none 0 0) []) (x : Co) : St0 w (putC W q.B x) q C { S with x := x } s E base (.slice none 0 0) [] := by
  have n := h.wo.ne; have hb := h.hb; have bE := h.bE
  have key : ∀ k, k ≠ q.B → (Go.Proofs.YtbpooljohjkbjaaGreatDoor.putC W q.B x).heap[k]? = W.heap[k]? := fun k hk => heap_putC W q.B x hk
  have hr := n.b.2
  exact ⟨h.wo.putC x, h.ha.other (key _ n.bh.symm) (key _ n.ba.symm) (key _ n.bg.symm), h.ev.other (key _ (by omega)), World.ownsRow_nil _ _ _ _, h.sav.putC (.inl (.inl n.b)) _, hb, bE, h.rE⟩
theorem fin' {nv0 : Value} {L0 : List Nt} (h : St0 w W q C S s E base nv0 L0) {nv : Value} {L : List Nt} (hn : NtsSl W nv L) (ho : ∀ k, nv.ownBlock = some k → base ≤ k ∧ k ≠ E) (r : Bool) (k i x y o : Int) :
    EvAt (putE W E r k i x y o nv) E r k i x y o nv ∧ EvV base (putE W E r k i x y o nv) (.agg #[.bool r, .int .i64 k, .int .i64 i, .int .u64 x, .int .u64 y, .int .u64 o, nv]) ⟨r, k, i, x, y, o, L⟩ ∧ WoAt (putE W E r k i x y o nv) q C S ∧ Sav (Ib q base) w (putE W E r k i x y o nv) := by
  have hb := h.hb; have bE := h.bE
  have key : ∀ j, j ≠ E → (putE W E r k i x y o nv).heap[j]? = W.heap[j]? := fun j hj => heap_putE W E r k i x y o nv hj
  have hh := h.wo.ne.h
  refine ⟨h.ev.put r k i x y o nv, ⟨nv, rfl, ?_, fun k e => (ho k e).1⟩, h.wo.out (h.wo.env.other (key _ (by have := h.wo.glo.1; have := hh.1; have := hh.2; omega)) (key _ (by have := h.wo.glo.2; have := hh.1; have := hh.2; omega))) (by rw [size_putE]; exact Nat.le_refl _) (fun j _ h2 => key j (by omega)), h.sav.putE (.inl (.inr bE)) r k i x y o nv⟩
  obtain ⟨a, cap, rfl, hn⟩ := hn
  refine ⟨a, cap, rfl, hn.imp id ?_⟩
  rintro ⟨b, off, rfl, h'⟩
  exact ⟨b, off, rfl, fun k hk => (h' k hk).other (key b (ho b rfl).2)⟩
end St0
end Go.Proofs.YtbpooljohjkbjaaGreatDoor
/- The collector's pick. -/
namespace Go.Proofs.YtbpooljohjkbjaaGreatDoor
open Go Go.RowKit
set_option maxRecDepth 100000
attribute [local go_sem ↓] Go.wp_at_zero Go.wp_at_succ
set_option maxHeartbeats 12800000 in
theorem col_walk {w : World} {q : WoK} {C : Cf} {S : Ws} (h : WoAt w q C S) {s' : Dy} {yl yj yc ym ya yp : Int} {yfd : Bool} {ytl ycy wh : Int} (hwh : wh = 0 ∨ wh = 1 ∨ wh = 2 ∨ wh = 3 ∨ wh = 5)
    (hst : ∀ W s, HAt W q.H q.A q.G C s → SpansAt W → s.f = S.f → Calls Tryz.prog 44 #[.pointer (some ⟨q.H, 0, none⟩), .agg #[.int .i64 S.x.l, .int .i64 S.x.j, .int .i64 S.x.c, .int .i64 S.x.m, .int .u64 S.x.a, .int .u64 S.x.p, .bool S.x.fd, .int .i64 S.x.tl, .int .i64 S.x.cy]] W (HP W q.H q.A q.G C s' (.tuple #[.agg #[.int .i64 yl, .int .i64 yj, .int .i64 yc, .int .i64 ym, .int .u64 ya, .int .u64 yp, .bool yfd, .int .i64 ytl, .int .i64 ycy], .int .i64 wh]))) :
    Calls Tryz.prog 31 #[.pointer (some ⟨q.B, 0, none⟩)] w fun e w' => ∃ v, e = .returned v ∧ EvV w.heap.size w' v (Ev.of s' (toldN C.b (⟨yl, yj, yc, ym, ya, yp, yfd, ytl, ycy⟩ : Co) wh)) ∧ WoAt w' q C ⟨s'.f, S.mu, S.lf, (⟨yl, yj, yc, ym, ya, yp, yfd, ytl, ycy⟩ : Co)⟩ ∧ Sav (Ib q w.heap.size) w w' := by
  obtain ⟨s, hs, h0⟩ := St0.start (nv := .slice none 0 0) (L := []) h (World.ownsRow_nil _ _ _ _) h.hi (Nat.le_refl _)
  have HL : Hid (∀ W, St0 w W q C S s w.heap.size w.heap.size (.slice none 0 0) [] → Calls Tryz.prog 44 #[.pointer (some ⟨q.H, 0, none⟩), .agg #[.int .i64 S.x.l, .int .i64 S.x.j, .int .i64 S.x.c, .int .i64 S.x.m, .int .u64 S.x.a, .int .u64 S.x.p, .bool S.x.fd, .int .i64 S.x.tl, .int .i64 S.x.cy]] W (HP W q.H q.A q.G C s' (.tuple #[.agg #[.int .i64 yl, .int .i64 yj, .int .i64 yc, .int .i64 ym, .int .u64 ya, .int .u64 yp, .bool yfd, .int .i64 ytl, .int .i64 ycy], .int .i64 wh]))) := Lib.hid (fun W h => hst W s h.ha h.wo.env.1 hs)
  have HSn := Lib.hid h0
  have HS0 := Lib.hid h0.drew
  have HWh := Lib.hid hwh
  clear h hst h0 hs hwh
  go_enter Tryz.func31, Tryz.ntmps31
  go_upto_region 1 with fail
  generalize w.alloc (.cells #[.bool false, .int .i64 0, .int .i64 0, .int .u64 0, .int .u64 0, .int .u64 0, .slice none 0 0] 41) = w1 at *
  obtain ⟨s0, _, s1, s2, s3, s4, s5, s6, s7, s8, s9, _⟩ := HS0.out.wo.bk.cells
  refine wp_region_held_drew (S := (fun w' => w'.cell? ⟨q.B, 0, none⟩ = some (.pointer (some ⟨q.H, 0, none⟩)) ∧ w'.cell? ⟨q.B, 2, none⟩ = some (.int .i64 S.x.l) ∧ w'.cell? ⟨q.B, 3, none⟩ = some (.int .i64 S.x.j) ∧ w'.cell? ⟨q.B, 4, none⟩ = some (.int .i64 S.x.c) ∧ w'.cell? ⟨q.B, 5, none⟩ = some (.int .i64 S.x.m) ∧ w'.cell? ⟨q.B, 6, none⟩ = some (.int .u64 S.x.a) ∧ w'.cell? ⟨q.B, 7, none⟩ = some (.int .u64 S.x.p) ∧ w'.cell? ⟨q.B, 8, none⟩ = some (.bool S.x.fd) ∧ w'.cell? ⟨q.B, 9, none⟩ = some (.int .i64 S.x.tl) ∧ w'.cell? ⟨q.B, 10, none⟩ = some (.int .i64 S.x.cy))) (by kernel_rfl) ?_ (fun hHeld => ?_)
  · exact ⟨s0, s1, s2, s3, s4, s5, s6, s7, s8, s9⟩
  refine tk 0 rfl hHeld ?_
  refine tk 1 rfl hHeld ?_
  refine tk 2 rfl hHeld ?_
  refine tk 3 rfl hHeld ?_
  refine tk 4 rfl hHeld ?_
  refine tk 5 rfl hHeld ?_
  refine tk 6 rfl hHeld ?_
  refine tk 7 rfl hHeld ?_
  refine wpAnyH_ready (rs := [8, 12]) (by kernel_rfl) (by simp) ?_
  refine AllReadyH.cons (o := _) rfl (fun K hK => ?zz) ?_
  case' zz =>
    go_simp
    refine (HL.out _ HS0.out).mono ?_
    rintro e V hp
    obtain ⟨rfl, hS⟩ := HS0.out.step hp
    have HS1 := Lib.hid hS
    clear hp hS HL HS0 HSn hHeld s0 s1 s2 s3 s4 s5 s6 s7 s8 s9
    obtain ⟨s0, _, s1, s2, s3, s4, s5, s6, s7, s8, s9, _⟩ := HS1.out.wo.bk.cells
    refine hK.out _ _ ?_ (fun hHeld => ?_)
    · exact ⟨s0, s1, s2, s3, s4, s5, s6, s7, s8, s9⟩
    clear hK K
    try simp only [Act.put, List.setIfInBounds_toArray, List.set_cons_zero, List.set_cons_succ]
    refine tk 9 rfl hHeld ?_
    refine tk 10 rfl hHeld ?_
    refine tk 11 rfl hHeld ?_
    refine wpAnyH_ready (rs := [12]) (by kernel_rfl) (by simp) ?_
    refine AllReadyH.cons (o := _) rfl (fun K hK => ?_) AllReadyH.nil
    go_simp
    have HT1 := Lib.hid (HS1.out.newC (⟨0, 0, 0, 0, 0, 0, false, 0, 0⟩ : Co))
    clear HS1 hHeld s0 s1 s2 s3 s4 s5 s6 s7 s8 s9
    generalize V.alloc (.cells #[.int .i64 0, .int .i64 0, .int .i64 0, .int .i64 0, .int .u64 0, .int .u64 0, .bool false, .int .i64 0, .int .i64 0] 49) = V2 at *
    generalize V.heap.size = Kb at *
    obtain ⟨k0, k1, k2, k3, k4, k5, k6, k7, k8, kf⟩ := HT1.out.co.cells
    obtain ⟨s0, _, s1, s2, s3, s4, s5, s6, s7, s8, s9, _⟩ := HT1.out.st.wo.bk.cells
    refine hK.out _ _ ?_ (fun hHeld => ?_)
    · exact ⟨s0, s1, s2, s3, s4, s5, s6, s7, s8, s9⟩
    clear hK K
    try simp only [Act.put, List.setIfInBounds_toArray, List.set_cons_zero, List.set_cons_succ]
    refine wpAnyH_ready (rs := [13]) (by kernel_rfl) (by simp) ?_
    refine AllReadyH.cons (o := _) rfl (fun K hK => ?_) AllReadyH.nil
    go_simp
    have HT0' := HT1.out.putK (⟨yl, yj, yc, ym, ya, yp, yfd, ytl, ycy⟩ : Co)
    dsimp only [put9] at HT0'
    have HT := Lib.hid HT0'
    clear HT0' HT1 hHeld kf k0 k1 k2 k3 k4 k5 k6 k7 k8 s0 s1 s2 s3 s4 s5 s6 s7 s8 s9
    generalize (((((((((V2.setCell ⟨Kb, 0, none⟩ (.int .i64 yl)).setCell ⟨Kb, 1, none⟩ (.int .i64 yj)).setCell ⟨Kb, 2, none⟩ (.int .i64 yc)).setCell ⟨Kb, 3, none⟩ (.int .i64 ym)).setCell ⟨Kb, 4, none⟩ (.int .u64 ya)).setCell ⟨Kb, 5, none⟩ (.int .u64 yp)).setCell ⟨Kb, 6, none⟩ (.bool yfd)).setCell ⟨Kb, 7, none⟩ (.int .i64 ytl)).setCell ⟨Kb, 8, none⟩ (.int .i64 ycy)) = W3 at *
    obtain ⟨s0, _, s1, s2, s3, s4, s5, s6, s7, s8, s9, _⟩ := HT.out.st.wo.bk.cells
    refine hK.out _ _ ?_ (fun hHeld => ?_)
    · exact ⟨s0, s1, s2, s3, s4, s5, s6, s7, s8, s9⟩
    clear hK K
    try simp only [Act.put, List.setIfInBounds_toArray, List.set_cons_zero, List.set_cons_succ]
    refine tk 14 rfl hHeld ?_
    refine wpAnyH_done (by kernel_rfl) ?_ _
  rotate_left
  refine AllReadyH.cons (o := _) rfl (fun K hK => ?_) AllReadyH.nil
  go_simp
  have HT0 := Lib.hid (HSn.out.newC (⟨0, 0, 0, 0, 0, 0, false, 0, 0⟩ : Co)).drew
  clear HS0 hHeld HSn s0 s1 s2 s3 s4 s5 s6 s7 s8 s9
  generalize (w1.alloc (.cells #[.int .i64 0, .int .i64 0, .int .i64 0, .int .i64 0, .int .u64 0, .int .u64 0, .bool false, .int .i64 0, .int .i64 0] 49)).drew = w2 at *
  generalize w1.heap.size = Kb at *
  obtain ⟨s0, _, s1, s2, s3, s4, s5, s6, s7, s8, s9, _⟩ := HT0.out.st.wo.bk.cells
  refine hK.out _ _ ?_ (fun hHeld => ?_)
  · exact ⟨s0, s1, s2, s3, s4, s5, s6, s7, s8, s9⟩
  clear hK K
  try simp only [Act.put, List.setIfInBounds_toArray, List.set_cons_zero, List.set_cons_succ]
  refine wpAnyH_ready (rs := [8]) (by kernel_rfl) (by simp) ?_
  refine AllReadyH.cons (o := _) rfl (fun K hK => ?_) AllReadyH.nil
  go_simp
  refine (HL.out _ HT0.out.st).mono ?_
  rintro e V hp
  obtain ⟨rfl, hS⟩ := HT0.out.step hp
  have HT1 := Lib.hid hS
  clear hp hS HL HT0 hHeld s0 s1 s2 s3 s4 s5 s6 s7 s8 s9
  obtain ⟨k0, k1, k2, k3, k4, k5, k6, k7, k8, kf⟩ := HT1.out.co.cells
  obtain ⟨s0, _, s1, s2, s3, s4, s5, s6, s7, s8, s9, _⟩ := HT1.out.st.wo.bk.cells
  refine hK.out _ _ ?_ (fun hHeld => ?_)
  · exact ⟨s0, s1, s2, s3, s4, s5, s6, s7, s8, s9⟩
  clear hK K
  try simp only [Act.put, List.setIfInBounds_toArray, List.set_cons_zero, List.set_cons_succ]
  refine tk 9 rfl hHeld ?_
  refine tk 10 rfl hHeld ?_
  refine tk 11 rfl hHeld ?_
  refine wpAnyH_ready (rs := [13]) (by kernel_rfl) (by simp) ?_
  refine AllReadyH.cons (o := _) rfl (fun K hK => ?_) AllReadyH.nil
  go_simp
  have HT0' := HT1.out.putK (⟨yl, yj, yc, ym, ya, yp, yfd, ytl, ycy⟩ : Co)
  dsimp only [put9] at HT0'
  have HT := Lib.hid HT0'
  clear HT0' HT1 hHeld kf k0 k1 k2 k3 k4 k5 k6 k7 k8 s0 s1 s2 s3 s4 s5 s6 s7 s8 s9
  generalize (((((((((V.setCell ⟨Kb, 0, none⟩ (.int .i64 yl)).setCell ⟨Kb, 1, none⟩ (.int .i64 yj)).setCell ⟨Kb, 2, none⟩ (.int .i64 yc)).setCell ⟨Kb, 3, none⟩ (.int .i64 ym)).setCell ⟨Kb, 4, none⟩ (.int .u64 ya)).setCell ⟨Kb, 5, none⟩ (.int .u64 yp)).setCell ⟨Kb, 6, none⟩ (.bool yfd)).setCell ⟨Kb, 7, none⟩ (.int .i64 ytl)).setCell ⟨Kb, 8, none⟩ (.int .i64 ycy)) = W3 at *
  obtain ⟨s0, _, s1, s2, s3, s4, s5, s6, s7, s8, s9, _⟩ := HT.out.st.wo.bk.cells
  refine hK.out _ _ ?_ (fun hHeld => ?_)
  · exact ⟨s0, s1, s2, s3, s4, s5, s6, s7, s8, s9⟩
  clear hK K
  try simp only [Act.put, List.setIfInBounds_toArray, List.set_cons_zero, List.set_cons_succ]
  refine tk 14 rfl hHeld ?_
  refine wpAnyH_done (by kernel_rfl) ?_ _
  all_goals
    try clear HSn
    clear hHeld s0 s1 s2 s3 s4 s5 s6 s7 s8 s9
    obtain ⟨_, _, c2, c3, c4, c5, c6, c7, c8, c9, c10, cf⟩ := HT.out.st.wo.bk.cells
    obtain ⟨k0, k1, k2, k3, k4, k5, k6, k7, k8, kf⟩ := HT.out.co.cells
    dsimp only at k0 k1 k2 k3 k4 k5 k6 k7 k8
    go_upto_region 3 with fail
    have HM' := HT.out.st.putC (⟨yl, yj, yc, ym, ya, yp, yfd, ytl, ycy⟩ : Co)
    dsimp only [putC] at HM'
    have HM := Lib.hid HM'
    clear HM' HT c2 c3 c4 c5 c6 c7 c8 c9 c10 cf kf k0 k1 k2 k3 k4 k5 k6 k7 k8
    generalize (((((((((W3.setCell ⟨q.B, 2, none⟩ (.int .i64 yl)).setCell ⟨q.B, 3, none⟩ (.int .i64 yj)).setCell ⟨q.B, 4, none⟩ (.int .i64 yc)).setCell ⟨q.B, 5, none⟩ (.int .i64 ym)).setCell ⟨q.B, 6, none⟩ (.int .u64 ya)).setCell ⟨q.B, 7, none⟩ (.int .u64 yp)).setCell ⟨q.B, 8, none⟩ (.bool yfd)).setCell ⟨q.B, 9, none⟩ (.int .i64 ytl)).setCell ⟨q.B, 10, none⟩ (.int .i64 ycy)) = W4 at *
    obtain ⟨b0, _⟩ := HM.out.drew.wo.bk.cells
    obtain ⟨_, _, a5, a6, a7, a8, a9, _⟩ := HM.out.drew.ha.cells
    refine wp_region_held_drew (S := (fun w' => w'.cell? ⟨q.B, 0, none⟩ = some (.pointer (some ⟨q.H, 0, none⟩)) ∧ w'.cell? ⟨q.H, 5, none⟩ = some (.int .i64 s'.k) ∧ w'.cell? ⟨q.H, 6, none⟩ = some (.int .i64 s'.i) ∧ w'.cell? ⟨q.H, 7, none⟩ = some (.int .u64 s'.x) ∧ w'.cell? ⟨q.H, 8, none⟩ = some (.int .u64 s'.y) ∧ w'.cell? ⟨q.H, 9, none⟩ = some (.int .u64 s'.o))) (by kernel_rfl) ?_ (fun hHeld => ?_)
    · exact ⟨b0, a5, a6, a7, a8, a9⟩
    refine tk 0 rfl hHeld ?_
    refine tk 1 rfl hHeld ?_
    refine tk 2 rfl hHeld ?_
    refine tk 3 rfl hHeld ?_
    refine tk 4 rfl hHeld ?_
    refine tk 5 rfl hHeld ?_
    refine tk 6 rfl hHeld ?_
    refine tk 7 rfl hHeld ?_
    refine tk 8 rfl hHeld ?_
    refine wpAnyH_ready (rs := [9]) (by kernel_rfl) (by simp) ?_
    refine AllReadyH.cons (o := _) rfl (fun K hK => ?_) AllReadyH.nil
    go_simp
    refine (told_c HM.out.drew.wo HWh.out).mono ?_
    rintro e V9 ⟨nv, rfl, hnt, hno, hb⟩
    have HM2 := Lib.hid (HM.out.drew.below hb)
    have hlE := HM.out.drew.ev.lt
    have hno' : ∀ k, nv.ownBlock = some k → w.heap.size ≤ k ∧ k ≠ w.heap.size := fun k e => by have := hno k e; omega
    have HFN0 := HM2.out.fin' hnt hno' true s'.k s'.i s'.x s'.y s'.o
    obtain ⟨an, cn, rfl, _⟩ := hnt
    have HFN' := HFN0
    dsimp only [putE] at HFN'
    have HFN := Lib.hid HFN'
    clear HFN' HFN0 hno hno' hb hlE HM b0 a5 a6 a7 a8 a9 hHeld
    obtain ⟨b0, _⟩ := HM2.out.wo.bk.cells
    obtain ⟨_, _, a5, a6, a7, a8, a9, _⟩ := HM2.out.ha.cells
    obtain ⟨v0, v1, v2, v3, v4, v5, v6, ef⟩ := HM2.out.ev.cells
    have nEB : q.B ≠ w.heap.size := by have := HM2.out.wo.ne.b.2; have := HM2.out.hb; have := HM2.out.bE; omega
    have nEH : q.H ≠ w.heap.size := by have := HM2.out.wo.ne.h.2; have := HM2.out.hb; have := HM2.out.bE; omega
    have HG' := And.intro ((World.cell?_of_block (a := ⟨q.B, 0, none⟩) (heap_putE V9 w.heap.size true s'.k s'.i s'.x s'.y s'.o (.slice an (toldN C.b (⟨yl, yj, yc, ym, ya, yp, yfd, ytl, ycy⟩ : Co) wh).length cn) nEB)).trans b0) (And.intro ((World.cell?_of_block (a := ⟨q.H, 5, none⟩) (heap_putE V9 w.heap.size true s'.k s'.i s'.x s'.y s'.o (.slice an (toldN C.b (⟨yl, yj, yc, ym, ya, yp, yfd, ytl, ycy⟩ : Co) wh).length cn) nEH)).trans a5) (And.intro ((World.cell?_of_block (a := ⟨q.H, 6, none⟩) (heap_putE V9 w.heap.size true s'.k s'.i s'.x s'.y s'.o (.slice an (toldN C.b (⟨yl, yj, yc, ym, ya, yp, yfd, ytl, ycy⟩ : Co) wh).length cn) nEH)).trans a6) (And.intro ((World.cell?_of_block (a := ⟨q.H, 7, none⟩) (heap_putE V9 w.heap.size true s'.k s'.i s'.x s'.y s'.o (.slice an (toldN C.b (⟨yl, yj, yc, ym, ya, yp, yfd, ytl, ycy⟩ : Co) wh).length cn) nEH)).trans a7) (And.intro ((World.cell?_of_block (a := ⟨q.H, 8, none⟩) (heap_putE V9 w.heap.size true s'.k s'.i s'.x s'.y s'.o (.slice an (toldN C.b (⟨yl, yj, yc, ym, ya, yp, yfd, ytl, ycy⟩ : Co) wh).length cn) nEH)).trans a8) ((World.cell?_of_block (a := ⟨q.H, 9, none⟩) (heap_putE V9 w.heap.size true s'.k s'.i s'.x s'.y s'.o (.slice an (toldN C.b (⟨yl, yj, yc, ym, ya, yp, yfd, ytl, ycy⟩ : Co) wh).length cn) nEH)).trans a9)))))
    dsimp only [putE] at HG'
    have HG := Lib.hid HG'
    clear HG'
    refine hK.out _ _ ?_ (fun hHeld => ?_)
    · exact ⟨b0, a5, a6, a7, a8, a9⟩
    clear hK K
    try simp only [Act.put, List.setIfInBounds_toArray, List.set_cons_zero, List.set_cons_succ]
    refine tk 10 rfl hHeld ?_
    refine wpAnyH_ready (rs := [11]) (by kernel_rfl) (by simp) ?_
    refine AllReadyH.cons (o := _) rfl (fun K hK => ?_) AllReadyH.nil
    go_simp
    refine hK.out _ _ ?_ (fun hHeld => ?_)
    · exact HG.out
    clear hK K
    try simp only [Act.put, List.setIfInBounds_toArray, List.set_cons_zero, List.set_cons_succ]
    refine wpAnyH_done (by kernel_rfl) ?_ _
    clear hHeld
    go_wp2_with fail
    obtain ⟨e0, e1, e2, e3, e4, e5, e6, _⟩ := HFN.out.1.cells
    refine bodyPost_ret (v := .agg #[.bool true, .int .i64 s'.k, .int .i64 s'.i, .int .u64 s'.x, .int .u64 s'.y, .int .u64 s'.o, .slice an (toldN C.b (⟨yl, yj, yc, ym, ya, yp, yfd, ytl, ycy⟩ : Co) wh).length cn]) (by simp [results, Tryz.f31, go_sem, e0, e1, e2, e3, e4, e5, e6]) rfl ?_
    exact ⟨_, rfl, HFN.out.2.1, HFN.out.2.2.1, HFN.out.2.2.2⟩
end Go.Proofs.YtbpooljohjkbjaaGreatDoor
/- Words stay words in a step of layer 14; its operation stays as it is. -/
namespace Go.Proofs.YtbpooljohjkbjaaGreatDoor
open Go Go.RowKit
set_option maxRecDepth 100000
theorem toNat_lt {w : Int} (h : U64 w) : w.toNat < 18446744073709551616 := by unfold U64 at h; omega
theorem ldP_U {C : Cf} {s : Dy} (h : s.U) (P : Int) : U64 (ldP C s P) := z5_u64 (h _)
theorem atomW_U {b : Int} (h : b ≤ 9223372036854775807) : U64 (atomW b) := by
  unfold atomW U64
  split <;> omega
theorem gateS_mU {C : Cf} {s : Dy} (m : Int) {x : Mu} (h : x.U) : (gateS C s m x).2.1.U := by
  unfold gateS
  unfold Mu.U at *
  repeat' split
  all_goals exact h
theorem tickS_mU {C : Cf} {s : Dy} (hs : s.U) {x : Mu} (h : x.U) : (tickS C s x).2.1.U := by
  obtain ⟨h1, h2, h3, h4, h5, h6⟩ := h
  unfold tickS
  repeat' split
  all_goals first | exact ⟨h1, h2, h3, h4, h5, h6⟩ | exact ⟨h1, h2, h3, h4, z5_u64 (hs _), h6⟩
theorem barS_mU {C : Cf} {s : Dy} {x : Mu} (h : x.U) : (barS C s x).2.1.U := by
  obtain ⟨h1, h2, h3, h4, h5, h6⟩ := h
  unfold barS
  repeat' split
  all_goals first | exact ⟨h1, h2, h3, h4, h5, h6⟩ | exact ⟨h1, h2, h3, h4, h5, u64_zero⟩
theorem ownS_U {C : Cf} {s : Dy} (hs : s.U) (m : Int) {x : Mu} (h : x.U) (hq : x.q3 ≤ 9223372036854775807) : (ownS C s m x).1.U ∧ (ownS C s m x).2.1.U := by
  have hx := h
  obtain ⟨h1, h2, h3, h4, h5, h6⟩ := h
  have hz := u64_zero
  have hl : ∀ P, U64 (ldP C s P) := ldP_U hs
  unfold ownS
  by_cases e10 : x.l = 10
  · rw [if_pos e10]; exact ⟨hs.act C 2 _ (atomW_U hq) hz, h1, h2, h3, h4, h5, h6⟩
  rw [if_neg e10]
  by_cases e11 : x.l = 11
  · rw [if_pos e11]; exact ⟨hs.act C 1 _ hz hz, hl _, h2, h3, h4, h5, h6⟩
  rw [if_neg e11]
  by_cases e12 : x.l = 12
  · rw [if_pos e12]; exact ⟨hs.act C 2 _ h1 hz, h1, h2, h3, h4, h5, begP_u64 _ (toNat_lt h1)⟩
  rw [if_neg e12]
  by_cases e13 : x.l = 13
  · rw [if_pos e13]; exact ⟨hs.act C 1 _ hz hz, by dsimp only; split <;> exact ⟨hl _, h2, h3, h4, h5, h6⟩⟩
  rw [if_neg e13]
  by_cases e14 : x.l = 14
  · rw [if_pos e14]; exact ⟨hs.act C 1 _ hz hz, h1, hl _, h3, h4, h5, h6⟩
  rw [if_neg e14]
  by_cases e15 : x.l = 15
  · rw [if_pos e15]; exact ⟨hs.act C 2 _ h2 hz, h1, h2, h3, h4, h5, begP_u64 _ (toNat_lt h2)⟩
  rw [if_neg e15]
  by_cases e16 : x.l = 16
  · rw [if_pos e16]; exact ⟨hs.act C 1 _ hz hz, by dsimp only; split <;> exact ⟨hl _, h2, h3, h4, h5, h6⟩⟩
  rw [if_neg e16]
  by_cases e17 : x.l = 17
  · rw [if_pos e17]; exact ⟨hs.act C 1 _ hz hz, h1, hl _, h3, h4, h5, h6⟩
  rw [if_neg e17]
  by_cases e18 : x.l = 18
  · rw [if_pos e18]; exact ⟨hs.act C 2 _ h2 hz, h1, h2, h3, h4, h5, begP_u64 _ (toNat_lt h2)⟩
  rw [if_neg e18]
  by_cases e19 : x.l = 19
  · rw [if_pos e19]; exact ⟨hs.act C 1 _ hz hz, h1, hl _, h3, h4, h5, h6⟩
  rw [if_neg e19]
  by_cases e20 : x.l = 20
  · rw [if_pos e20]; exact ⟨hs.act C 1 _ hz hz, h1, hl _, h3, h4, h5, h6⟩
  rw [if_neg e20]
  by_cases e21 : x.l = 21
  · rw [if_pos e21]; exact ⟨hs.act C 2 _ h2 hz, h1, h2, h3, h4, h5, begP_u64 _ (toNat_lt h2)⟩
  rw [if_neg e21]
  by_cases e22 : x.l = 22
  · rw [if_pos e22]; exact ⟨hs.act C 1 _ hz hz, hl _, h2, h3, h4, h5, h6⟩
  rw [if_neg e22]
  by_cases e23 : x.l = 23
  · rw [if_pos e23]; exact ⟨hs.act C 1 _ hz hz, h1, hl _, h3, h4, h5, h6⟩
  rw [if_neg e23]
  by_cases e24 : x.l = 24
  · rw [if_pos e24]; exact ⟨hs.act C 1 _ hz hz, hl _, h2, h3, h4, h5, h6⟩
  rw [if_neg e24]
  by_cases e30 : x.l = 30
  · rw [if_pos e30]; exact ⟨hs.act C 1 _ hz hz, hl _, h2, h3, h4, h5, h6⟩
  rw [if_neg e30]
  by_cases e31 : x.l = 31
  · rw [if_pos e31]; exact ⟨hs.act C 1 _ hz hz, h1, hl _, h3, h4, h5, h6⟩
  rw [if_neg e31]
  by_cases e38 : x.l = 38
  · rw [if_pos e38]; exact ⟨hs.act C 2 _ h1 hz, h1, h2, h3, h4, h5, begP_u64 _ (toNat_lt h1)⟩
  rw [if_neg e38]
  by_cases e39 : x.l = 39
  · rw [if_pos e39]; exact ⟨hs.act C 2 _ h2 hz, h1, h2, h3, h4, h5, begP_u64 _ (toNat_lt h2)⟩
  rw [if_neg e39]
  by_cases e40 : x.l = 40
  · rw [if_pos e40]; exact ⟨hs.act C 2 _ h3 hz, h1, h2, h3, h4, h5, begP_u64 _ (toNat_lt h3)⟩
  rw [if_neg e40]
  exact ⟨hs, hx⟩
theorem lispS_U {C : Cf} {s : Dy} (hs : s.U) (m : Int) {x : Mu} (h : x.U) (hq : x.q3 ≤ 9223372036854775807) : (lispS C s m x).1.U ∧ (lispS C s m x).2.1.U := by
  have hc : s.clr.U := hs
  unfold lispS
  split
  · exact ⟨gateS_U hc m x, gateS_mU m h⟩
  · split
    · exact ⟨tickS_U hc x, tickS_mU hc h⟩
    · split
      · exact popS_U hc x h
      · split
        · exact ⟨barS_U hc x, barS_mU h⟩
        · exact ownS_U hc m h hq
theorem lispS_q {C : Cf} {s : Dy} (m : Int) (x : Mu) : (lispS C s m x).2.1.q1 = x.q1 ∧ (lispS C s m x).2.1.q2 = x.q2 ∧ (lispS C s m x).2.1.q3 = x.q3 ∧ (lispS C s m x).2.1.q4 = x.q4 := by
  unfold lispS
  split
  · unfold gateS; repeat' split
    all_goals exact ⟨rfl, rfl, rfl, rfl⟩
  · split
    · unfold tickS; repeat' split
      all_goals exact ⟨rfl, rfl, rfl, rfl⟩
    · split
      · unfold popS; repeat' split
        all_goals exact ⟨rfl, rfl, rfl, rfl⟩
      · split
        · unfold barS; repeat' split
          all_goals exact ⟨rfl, rfl, rfl, rfl⟩
        · unfold ownS
          by_cases e10 : x.l = 10
          · rw [if_pos e10]; exact ⟨rfl, rfl, rfl, rfl⟩
          rw [if_neg e10]
          by_cases e11 : x.l = 11
          · rw [if_pos e11]; exact ⟨rfl, rfl, rfl, rfl⟩
          rw [if_neg e11]
          by_cases e12 : x.l = 12
          · rw [if_pos e12]; exact ⟨rfl, rfl, rfl, rfl⟩
          rw [if_neg e12]
          by_cases e13 : x.l = 13
          · rw [if_pos e13]; exact (by dsimp only; split <;> exact ⟨rfl, rfl, rfl, rfl⟩)
          rw [if_neg e13]
          by_cases e14 : x.l = 14
          · rw [if_pos e14]; exact ⟨rfl, rfl, rfl, rfl⟩
          rw [if_neg e14]
          by_cases e15 : x.l = 15
          · rw [if_pos e15]; exact ⟨rfl, rfl, rfl, rfl⟩
          rw [if_neg e15]
          by_cases e16 : x.l = 16
          · rw [if_pos e16]; exact (by dsimp only; split <;> exact ⟨rfl, rfl, rfl, rfl⟩)
          rw [if_neg e16]
          by_cases e17 : x.l = 17
          · rw [if_pos e17]; exact ⟨rfl, rfl, rfl, rfl⟩
          rw [if_neg e17]
          by_cases e18 : x.l = 18
          · rw [if_pos e18]; exact ⟨rfl, rfl, rfl, rfl⟩
          rw [if_neg e18]
          by_cases e19 : x.l = 19
          · rw [if_pos e19]; exact ⟨rfl, rfl, rfl, rfl⟩
          rw [if_neg e19]
          by_cases e20 : x.l = 20
          · rw [if_pos e20]; exact ⟨rfl, rfl, rfl, rfl⟩
          rw [if_neg e20]
          by_cases e21 : x.l = 21
          · rw [if_pos e21]; exact ⟨rfl, rfl, rfl, rfl⟩
          rw [if_neg e21]
          by_cases e22 : x.l = 22
          · rw [if_pos e22]; exact ⟨rfl, rfl, rfl, rfl⟩
          rw [if_neg e22]
          by_cases e23 : x.l = 23
          · rw [if_pos e23]; exact ⟨rfl, rfl, rfl, rfl⟩
          rw [if_neg e23]
          by_cases e24 : x.l = 24
          · rw [if_pos e24]; exact ⟨rfl, rfl, rfl, rfl⟩
          rw [if_neg e24]
          by_cases e30 : x.l = 30
          · rw [if_pos e30]; exact ⟨rfl, rfl, rfl, rfl⟩
          rw [if_neg e30]
          by_cases e31 : x.l = 31
          · rw [if_pos e31]; exact ⟨rfl, rfl, rfl, rfl⟩
          rw [if_neg e31]
          by_cases e38 : x.l = 38
          · rw [if_pos e38]; exact ⟨rfl, rfl, rfl, rfl⟩
          rw [if_neg e38]
          by_cases e39 : x.l = 39
          · rw [if_pos e39]; exact ⟨rfl, rfl, rfl, rfl⟩
          rw [if_neg e39]
          by_cases e40 : x.l = 40
          · rw [if_pos e40]; exact ⟨rfl, rfl, rfl, rfl⟩
          rw [if_neg e40]
          exact ⟨rfl, rfl, rfl, rfl⟩
end Go.Proofs.YtbpooljohjkbjaaGreatDoor
/- A mutator at work: what lies where; its small calls. -/
namespace Go.Proofs.YtbpooljohjkbjaaGreatDoor
open Go Go.RowKit
set_option maxRecDepth 100000
attribute [local go_sem ↓] Go.wp_at_zero Go.wp_at_succ
structure WkAt (w : World) (B H A G : Nat) (C : Cf) (m : Int) (s : Dy) (x : Mu) : Prop where
  wk : w.heap[B]? = some (.cells #[.pointer (some ⟨H, 0, none⟩), .int .i64 x.l, .int .i64 x.q1, .int .i64 x.q2, .int .i64 x.q3, .int .i64 x.q4, .int .u64 x.m1, .int .u64 x.m2, .int .u64 x.m3, .int .u64 x.m4, .int .u64 x.m5, .int .u64 x.p, .int .i64 x.bk, .int .i64 x.rt, .int .i64 m] 172 (0, 0))
  hand : HAt w H A G C s
  n0 : B ≠ H
  n1 : B ≠ A
  n2 : B ≠ G
def WS (H G B : Nat) : Nat → Prop := fun k => (k = H ∨ k = G) ∨ k = B
def WPost (w : World) (B H A G : Nat) (C : Cf) (m : Int) (v : Value) (s' : Dy) (x' : Mu) (e : Ending) (w' : World) : Prop := e = .returned v ∧ WkAt w' B H A G C m s' x' ∧ Sav (WS H G B) w w'
abbrev putW (w : World) (B : Nat) (x : Mu) : World := ((((((((((((w.setCell ⟨B, 1, none⟩ (.int .i64 x.l)).setCell ⟨B, 2, none⟩ (.int .i64 x.q1)).setCell ⟨B, 3, none⟩ (.int .i64 x.q2)).setCell ⟨B, 4, none⟩ (.int .i64 x.q3)).setCell ⟨B, 5, none⟩ (.int .i64 x.q4)).setCell ⟨B, 6, none⟩ (.int .u64 x.m1)).setCell ⟨B, 7, none⟩ (.int .u64 x.m2)).setCell ⟨B, 8, none⟩ (.int .u64 x.m3)).setCell ⟨B, 9, none⟩ (.int .u64 x.m4)).setCell ⟨B, 10, none⟩ (.int .u64 x.m5)).setCell ⟨B, 11, none⟩ (.int .u64 x.p)).setCell ⟨B, 12, none⟩ (.int .i64 x.bk)).setCell ⟨B, 13, none⟩ (.int .i64 x.rt)
namespace WkAt
variable {w w' : World} {B H A G : Nat} {C : Cf} {m : Int} {s s' : Dy} {x : Mu}
theorem cells (h : WkAt w B H A G C m s x) : w.cell? ⟨B, 0, none⟩ = some (.pointer (some ⟨H, 0, none⟩)) ∧ w.cell? ⟨B, 1, none⟩ = some (.int .i64 x.l) ∧ w.cell? ⟨B, 2, none⟩ = some (.int .i64 x.q1) ∧ w.cell? ⟨B, 3, none⟩ = some (.int .i64 x.q2) ∧ w.cell? ⟨B, 4, none⟩ = some (.int .i64 x.q3) ∧ w.cell? ⟨B, 5, none⟩ = some (.int .i64 x.q4) ∧ w.cell? ⟨B, 6, none⟩ = some (.int .u64 x.m1) ∧ w.cell? ⟨B, 7, none⟩ = some (.int .u64 x.m2) ∧ w.cell? ⟨B, 8, none⟩ = some (.int .u64 x.m3) ∧ w.cell? ⟨B, 9, none⟩ = some (.int .u64 x.m4) ∧ w.cell? ⟨B, 10, none⟩ = some (.int .u64 x.m5) ∧ w.cell? ⟨B, 11, none⟩ = some (.int .u64 x.p) ∧ w.cell? ⟨B, 12, none⟩ = some (.int .i64 x.bk) ∧ w.cell? ⟨B, 13, none⟩ = some (.int .i64 x.rt) ∧ w.cell? ⟨B, 14, none⟩ = some (.int .i64 m) ∧ (∀ j, w.frozen? ⟨B, j, none⟩ = false) := by
  have h := h.wk
  refine ⟨by simp [World.cell?, h], by simp [World.cell?, h], by simp [World.cell?, h], by simp [World.cell?, h], by simp [World.cell?, h], by simp [World.cell?, h], by simp [World.cell?, h], by simp [World.cell?, h], by simp [World.cell?, h], by simp [World.cell?, h], by simp [World.cell?, h], by simp [World.cell?, h], by simp [World.cell?, h], by simp [World.cell?, h], by simp [World.cell?, h], fun j => by simp [World.frozen?, h]⟩
theorem lt (h : WkAt w B H A G C m s x) : B < w.heap.size := (Array.getElem?_eq_some_iff.1 h.wk).1
theorem below (h : WkAt w B H A G C m s x) (hb : Below w.heap.size w w') : WkAt w' B H A G C m s x := ⟨(hb.block _ h.lt).trans h.wk, h.hand.below hb, h.n0, h.n1, h.n2⟩
theorem drew (h : WkAt w B H A G C m s x) : WkAt w.drew B H A G C m s x := ⟨h.wk, h.hand.drew, h.n0, h.n1, h.n2⟩
theorem handed (h : WkAt w B H A G C m s x) (hF : HAt w' H A G C s') (hs : Sav (HG H G) w w') : WkAt w' B H A G C m s' x := ⟨(hs.block B h.lt (fun e => e.elim h.n0 h.n2)).trans h.wk, hF, h.n0, h.n1, h.n2⟩
theorem setL (h : WkAt w B H A G C m s x) (z : Int) : WkAt (w.setCell ⟨B, 1, none⟩ (.int .i64 z)) B H A G C m s { x with l := z } :=
  ⟨by have := h.wk; simp [World.setCell, Array.getElem?_modify, this], h.hand.setOther h.n0 h.n1 h.n2 _, h.n0, h.n1, h.n2⟩
theorem setA (h : WkAt w B H A G C m s x) (z : Int) : WkAt (w.setCell ⟨B, 6, none⟩ (.int .u64 z)) B H A G C m s { x with m1 := z } :=
  ⟨by have := h.wk; simp [World.setCell, Array.getElem?_modify, this], h.hand.setOther h.n0 h.n1 h.n2 _, h.n0, h.n1, h.n2⟩
theorem setB (h : WkAt w B H A G C m s x) (z : Int) : WkAt (w.setCell ⟨B, 7, none⟩ (.int .u64 z)) B H A G C m s { x with m2 := z } :=
  ⟨by have := h.wk; simp [World.setCell, Array.getElem?_modify, this], h.hand.setOther h.n0 h.n1 h.n2 _, h.n0, h.n1, h.n2⟩
theorem setR (h : WkAt w B H A G C m s x) (z : Int) : WkAt (w.setCell ⟨B, 13, none⟩ (.int .i64 z)) B H A G C m s { x with rt := z } :=
  ⟨by have := h.wk; simp [World.setCell, Array.getElem?_modify, this], h.hand.setOther h.n0 h.n1 h.n2 _, h.n0, h.n1, h.n2⟩
theorem put (h : WkAt w B H A G C m s x) (y : Mu) : WkAt (putW w B y) B H A G C m s y :=
  ⟨by have := h.wk; simp [World.setCell, Array.getElem?_modify, this], ((((((((((((h.hand.setOther h.n0 h.n1 h.n2 _).setOther h.n0 h.n1 h.n2 _).setOther h.n0 h.n1 h.n2 _).setOther h.n0 h.n1 h.n2 _).setOther h.n0 h.n1 h.n2 _).setOther h.n0 h.n1 h.n2 _).setOther h.n0 h.n1 h.n2 _).setOther h.n0 h.n1 h.n2 _).setOther h.n0 h.n1 h.n2 _).setOther h.n0 h.n1 h.n2 _).setOther h.n0 h.n1 h.n2 _).setOther h.n0 h.n1 h.n2 _).setOther h.n0 h.n1 h.n2 _, h.n0, h.n1, h.n2⟩
end WkAt
theorem Sav.putW {S : Nat → Prop} {w w' : World} (h : Sav S w w') {B : Nat} (hB : S B) (x : Mu) : Sav S w (putW w' B x) :=
  ((((((((((((h.set (p := ⟨B, 1, none⟩) (.inl hB) _).set (p := ⟨B, 2, none⟩) (.inl hB) _).set (p := ⟨B, 3, none⟩) (.inl hB) _).set (p := ⟨B, 4, none⟩) (.inl hB) _).set (p := ⟨B, 5, none⟩) (.inl hB) _).set (p := ⟨B, 6, none⟩) (.inl hB) _).set (p := ⟨B, 7, none⟩) (.inl hB) _).set (p := ⟨B, 8, none⟩) (.inl hB) _).set (p := ⟨B, 9, none⟩) (.inl hB) _).set (p := ⟨B, 10, none⟩) (.inl hB) _).set (p := ⟨B, 11, none⟩) (.inl hB) _).set (p := ⟨B, 12, none⟩) (.inl hB) _).set (p := ⟨B, 13, none⟩) (.inl hB) _
theorem hgWS {H G B : Nat} {w w' : World} (h : Sav (HG H G) w w') : Sav (WS H G B) w w' := h.mono (fun _ e => .inl e)
theorem lspans_sav {w w' : World} {H A G : Nat} {C : Cf} {s : Dy} (hn : 0 < C.n) (hS : SpansAt w) (hH : HAt w H A G C s) (hs : Sav (HG H G) w w') : SpansAt w' := by
  have hl := lt_of_cell hS.1.1
  have nH : 0 ≠ H := by
    intro e
    have h1 := hS.1.1
    have h2 := hH.cells.1
    rw [← e, h1] at h2
    cases h2
  have nG : 0 ≠ G := by
    intro e
    have h1 := hS.1.1
    have h2 := hH.ar.row.cell hn
    rw [← e, h1] at h2
    cases h2
  have key : ∀ j v, w.cell? ⟨0, j, none⟩ = some v → w'.cell? ⟨0, j, none⟩ = some v := fun j v e => by
    have hb := hs.block _ hl (fun e => e.elim nH nG)
    rw [← e]
    unfold World.cell?
    rw [hb]
  obtain ⟨⟨a1, a2, a3⟩, ⟨b1, b2, b3⟩, ⟨c1, c2, c3⟩, ⟨d1, d2, d3⟩⟩ := hS
  exact ⟨⟨key _ _ a1, key _ _ a2, key _ _ a3⟩, ⟨key _ _ b1, key _ _ b2, key _ _ b3⟩, ⟨key _ _ c1, key _ _ c2, key _ _ c3⟩, ⟨key _ _ d1, key _ _ d2, key _ _ d3⟩⟩
set_option maxHeartbeats 1600000 in
theorem goOn_c' {w : World} {B H A G : Nat} {C : Cf} {m : Int} {s : Dy} {x : Mu} (h : WkAt w B H A G C m s x) (k : Int) :
    Calls Tryz.prog 183 #[.pointer (some ⟨B, 0, none⟩), .int .i64 k] w (WPost w B H A G C m (.bool false) s { x with l := k }) := by
  have HW0 := Lib.hid h
  have HQ0 : Hid (Sav (WS H G B) w w) := Lib.hid (Sav.of (Below.refl _ _))
  clear h
  obtain ⟨c0, c1, c2, c3, c4, c5, c6, c7, c8, c9, c10, c11, c12, c13, c14, cf⟩ := HW0.out.cells
  (try dsimp only at c1 c2 c3 c4 c5 c6 c7 c8 c9 c10 c11 c12 c13)
  go_enter Tryz.func183, Tryz.ntmps183
  go_wp2_with fail
  go_ret
  have HW1 := Lib.hid (HW0.out.setL k)
  have HQ1 := Lib.hid (HQ0.out.set (p := ⟨B, 1, none⟩) (.inl (.inr rfl)) (.int .i64 k))
  clear HW0 HQ0
  exact ⟨rfl, HW1.out, HQ1.out⟩
set_option maxHeartbeats 1600000 in
theorem end_c {w : World} {B H A G : Nat} {C : Cf} {m : Int} {s : Dy} {x : Mu} (h : WkAt w B H A G C m s x) (k : Int) :
    Calls Tryz.prog 182 #[.pointer (some ⟨B, 0, none⟩), .int .i64 k] w (WPost w B H A G C m (.bool true) s { x with rt := k, l := 90 }) := by
  have HW0 := Lib.hid h
  have HQ0 : Hid (Sav (WS H G B) w w) := Lib.hid (Sav.of (Below.refl _ _))
  clear h
  obtain ⟨c0, c1, c2, c3, c4, c5, c6, c7, c8, c9, c10, c11, c12, c13, c14, cf⟩ := HW0.out.cells
  (try dsimp only at c1 c2 c3 c4 c5 c6 c7 c8 c9 c10 c11 c12 c13)
  go_enter Tryz.func182, Tryz.ntmps182
  go_wp2_with fail
  go_ret
  have HW1 := Lib.hid (HW0.out.setR k)
  have HQ1 := Lib.hid (HQ0.out.set (p := ⟨B, 13, none⟩) (.inl (.inr rfl)) (.int .i64 k))
  clear HW0 HQ0
  have HW2 := Lib.hid (HW1.out.setL 90)
  have HQ2 := Lib.hid (HQ1.out.set (p := ⟨B, 1, none⟩) (.inl (.inr rfl)) (.int .i64 90))
  clear HW1 HQ1
  exact ⟨rfl, HW2.out, HQ2.out⟩
set_option maxHeartbeats 1600000 in
theorem shade_c' {w : World} {B H A G : Nat} {C : Cf} {m : Int} {s : Dy} {x : Mu} (h : WkAt w B H A G C m s x) (z : Int) (hz : U64 z) (k : Int) :
    Calls Tryz.prog 189 #[.pointer (some ⟨B, 0, none⟩), .int .u64 z, .int .i64 k] w (WPost w B H A G C m (.tuple #[]) s (begM x z k)) := by
  obtain ⟨v, rfl, hv⟩ := u64_nat' hz
  have hb0 : begM x (v : Int) k = { x with l := begL v k, p := begP v, bk := begB v k } := by unfold begM; simp only [Int.toNat_natCast]
  rw [hb0]; clear hb0 hz
  have HW0 := Lib.hid h
  have HQ0 : Hid (Sav (WS H G B) w w) := Lib.hid (Sav.of (Below.refl _ _))
  clear h
  obtain ⟨c0, c1, c2, c3, c4, c5, c6, c7, c8, c9, c10, c11, c12, c13, c14, cf⟩ := HW0.out.cells
  (try dsimp only at c1 c2 c3 c4 c5 c6 c7 c8 c9 c10 c11 c12 c13)
  have HB := Lib.hid (fun W => Begin_c x.l x.p x.bk x.q1 x.q2 x.q3 x.q4 x.m1 x.m2 x.m3 x.m4 x.m5 x.rt v hv k W)
  generalize begL v k = L at *
  generalize begP v = P at *
  generalize begB v k = Q at *
  clear hv
  go_enter Tryz.func189, Tryz.ntmps189
  go_wp2_with fail
  refine (HB.out _).mono ?_
  rintro e V1 ⟨rfl, hb⟩
  have HW1 := Lib.hid (HW0.out.below hb)
  have HQ1 := Lib.hid (HQ0.out.trans (Sav.of hb))
  clear HW0 HQ0 HB hb c0 c1 c2 c3 c4 c5 c6 c7 c8 c9 c10 c11 c12 c13 c14 cf
  obtain ⟨c0, c1, c2, c3, c4, c5, c6, c7, c8, c9, c10, c11, c12, c13, c14, cf⟩ := HW1.out.cells
  (try dsimp only at c1 c2 c3 c4 c5 c6 c7 c8 c9 c10 c11 c12 c13)
  go_wp2_with fail
  go_end0
  exact ⟨rfl, HW1.out.put { x with l := L, p := P, bk := Q }, HQ1.out.putW (.inr rfl) { x with l := L, p := P, bk := Q }⟩
set_option maxHeartbeats 1600000 in
theorem succeed_c {w : World} {B H A G : Nat} {C : Cf} {m : Int} {s : Dy} {x : Mu} (h : WkAt w B H A G C m s x) (z : Int) (hz : U64 z) :
    Calls Tryz.prog 184 #[.pointer (some ⟨B, 0, none⟩), .int .u64 z] w (WPost w B H A G C m (.tuple #[]) s (begM { x with rt := 1 } z 90)) := by
  have HW0 := Lib.hid h
  have HQ0 : Hid (Sav (WS H G B) w w) := Lib.hid (Sav.of (Below.refl _ _))
  clear h
  obtain ⟨c0, c1, c2, c3, c4, c5, c6, c7, c8, c9, c10, c11, c12, c13, c14, cf⟩ := HW0.out.cells
  (try dsimp only at c1 c2 c3 c4 c5 c6 c7 c8 c9 c10 c11 c12 c13)
  have HB := Lib.hid (fun W h => shade_c' (w := W) (B := B) (H := H) (A := A) (G := G) (C := C) (m := m) (s := s) (x := { x with rt := 1 }) h z hz 90)
  generalize begM { x with rt := 1 } z 90 = y at *
  clear hz
  go_enter Tryz.func184, Tryz.ntmps184
  go_wp2_with fail
  have HW1 := Lib.hid (HW0.out.setR 1)
  have HQ1 := Lib.hid (HQ0.out.set (p := ⟨B, 13, none⟩) (.inl (.inr rfl)) (.int .i64 1))
  clear HW0 HQ0
  refine (HB.out _ HW1.out).mono ?_
  rintro e V1 ⟨rfl, hW, hs⟩
  have HW2 := Lib.hid hW
  have HQ2 := Lib.hid (HQ1.out.trans hs)
  clear HW1 HQ1 HB hW hs c0 c1 c2 c3 c4 c5 c6 c7 c8 c9 c10 c11 c12 c13 c14 cf
  go_wp2_with fail
  go_end0
  exact ⟨rfl, HW2.out, HQ2.out⟩
set_option maxHeartbeats 1600000 in
theorem reg_c {w : World} {B H A G : Nat} {C : Cf} {m : Int} {s : Dy} {x : Mu} (h : WkAt w B H A G C m s x) (hS : SpansAt w) (r : Int) :
    Calls Tryz.prog 180 #[.pointer (some ⟨B, 0, none⟩), .int .i64 r] w fun e w' => e = .returned (.int .i64 (regP C.a C.b C.c C.d m r)) ∧ Below w.heap.size w w' := by
  obtain ⟨c0, _, _, _, _, _, _, _, _, _, _, _, _, _, c14, _⟩ := h.cells
  obtain ⟨_, ⟨h1, h2, h3, h4⟩, _⟩ := h.hand.cells
  have HC := Lib.hid (Reg_c C.a C.b C.c C.d m r w.drew hS)
  generalize regP C.a C.b C.c C.d m r = P at *
  have HW := Lib.hid h
  clear h hS
  go_enter Tryz.func180, Tryz.ntmps180
  go_wp2_with fail
  refine wp_region_held_drew (S := (fun w' => w'.cell? ⟨B, 0, none⟩ = some (.pointer (some ⟨H, 0, none⟩)) ∧ w'.cell? ⟨B, 14, none⟩ = some (.int .i64 m) ∧ w'.cell? ⟨H, 1, none⟩ = some (.int .i64 C.a) ∧ w'.cell? ⟨H, 2, none⟩ = some (.int .i64 C.b) ∧ w'.cell? ⟨H, 3, none⟩ = some (.int .i64 C.c) ∧ w'.cell? ⟨H, 4, none⟩ = some (.int .i64 C.d))) (by kernel_rfl) ?_ (fun hHeld => ?_)
  · exact ⟨c0, c14, h1, h2, h3, h4⟩
  refine wpAnyH_take (i := 0) (oi := { dst := some 5, op := Op.move (Operand.tmp 0), type := 173, pos := "lisp.go:276", after := #[], guard := none }) (v := ?vq0) rfl (by kernel_rfl) (by kernel_rfl) (by kernel_rfl) (fun _ _ _ h => h) (Or.inl ⟨by rfl, ?hyq0⟩) hHeld ?_
  case hyq0 => (intro w hSw; (try dsimp only at hSw); go_simp; (try with_reducible rfl))
  try simp only [Act.put, List.setIfInBounds_toArray, List.set_cons_zero, List.set_cons_succ]
  refine wpAnyH_take (i := 1) (oi := { dst := some 6, op := Op.nilCheck (Operand.tmp 5), type := 0, pos := "lisp.go:276", after := #[{ on := 0, ground := Ground.data }], guard := none }) (v := ?vq1) rfl (by kernel_rfl) (by kernel_rfl) (by kernel_rfl) (fun _ _ _ h => h) (Or.inl ⟨by rfl, ?hyq1⟩) hHeld ?_
  case hyq1 => (intro w hSw; (try dsimp only at hSw); go_simp; (try with_reducible rfl))
  try simp only [Act.put, List.setIfInBounds_toArray, List.set_cons_zero, List.set_cons_succ]
  refine wpAnyH_take (i := 2) (oi := { dst := some 7, op := Op.fieldAddr 172 (Operand.tmp 6) 0, type := 0, pos := "lisp.go:276", after := #[{ on := 1, ground := Ground.data }], guard := none }) (v := ?vq2) rfl (by kernel_rfl) (by kernel_rfl) (by kernel_rfl) (fun _ _ _ h => h) (Or.inl ⟨by rfl, ?hyq2⟩) hHeld ?_
  case hyq2 => (intro w hSw; (try dsimp only at hSw); go_simp; (try with_reducible rfl))
  try simp only [Act.put, List.setIfInBounds_toArray, List.set_cons_zero, List.set_cons_succ]
  refine wpAnyH_take (i := 3) (oi := { dst := some 8, op := Op.load 70 (Operand.tmp 7), type := 70, pos := "lisp.go:276", after := #[{ on := 2, ground := Ground.data }], guard := none }) (v := ?vq3) rfl (by kernel_rfl) (by kernel_rfl) (by kernel_rfl) (fun _ _ _ h => h) (Or.inl ⟨by rfl, ?hyq3⟩) hHeld ?_
  case hyq3 => (intro w hSw; (try dsimp only at hSw); go_simp; (try with_reducible rfl))
  try simp only [Act.put, List.setIfInBounds_toArray, List.set_cons_zero, List.set_cons_succ]
  refine wpAnyH_take (i := 4) (oi := { dst := some 9, op := Op.nilCheck (Operand.tmp 8), type := 0, pos := "lisp.go:276", after := #[{ on := 3, ground := Ground.data }], guard := none }) (v := ?vq4) rfl (by kernel_rfl) (by kernel_rfl) (by kernel_rfl) (fun _ _ _ h => h) (Or.inl ⟨by rfl, ?hyq4⟩) hHeld ?_
  case hyq4 => (intro w hSw; (try dsimp only at hSw); go_simp; (try with_reducible rfl))
  try simp only [Act.put, List.setIfInBounds_toArray, List.set_cons_zero, List.set_cons_succ]
  refine wpAnyH_take (i := 5) (oi := { dst := some 10, op := Op.fieldAddr 90 (Operand.tmp 9) 1, type := 0, pos := "lisp.go:276", after := #[{ on := 4, ground := Ground.data }], guard := none }) (v := ?vq5) rfl (by kernel_rfl) (by kernel_rfl) (by kernel_rfl) (fun _ _ _ h => h) (Or.inl ⟨by rfl, ?hyq5⟩) hHeld ?_
  case hyq5 => (intro w hSw; (try dsimp only at hSw); go_simp; (try with_reducible rfl))
  try simp only [Act.put, List.setIfInBounds_toArray, List.set_cons_zero, List.set_cons_succ]
  refine wpAnyH_take (i := 6) (oi := { dst := some 11, op := Op.load 88 (Operand.tmp 10), type := 88, pos := "lisp.go:276", after := #[{ on := 5, ground := Ground.data }], guard := none }) (v := ?vq6) rfl (by kernel_rfl) (by kernel_rfl) (by kernel_rfl) (fun _ _ _ h => h) (Or.inl ⟨by rfl, ?hyq6⟩) hHeld ?_
  case hyq6 => (intro w hSw; (try dsimp only at hSw); go_simp; (try with_reducible rfl))
  try simp only [Act.put, List.setIfInBounds_toArray, List.set_cons_zero, List.set_cons_succ]
  refine wpAnyH_take (i := 7) (oi := { dst := some 12, op := Op.move (Operand.tmp 0), type := 173, pos := "lisp.go:276", after := #[], guard := none }) (v := ?vq7) rfl (by kernel_rfl) (by kernel_rfl) (by kernel_rfl) (fun _ _ _ h => h) (Or.inl ⟨by rfl, ?hyq7⟩) hHeld ?_
  case hyq7 => (intro w hSw; (try dsimp only at hSw); go_simp; (try with_reducible rfl))
  try simp only [Act.put, List.setIfInBounds_toArray, List.set_cons_zero, List.set_cons_succ]
  refine wpAnyH_take (i := 8) (oi := { dst := some 13, op := Op.nilCheck (Operand.tmp 12), type := 0, pos := "lisp.go:276", after := #[{ on := 7, ground := Ground.data }], guard := none }) (v := ?vq8) rfl (by kernel_rfl) (by kernel_rfl) (by kernel_rfl) (fun _ _ _ h => h) (Or.inl ⟨by rfl, ?hyq8⟩) hHeld ?_
  case hyq8 => (intro w hSw; (try dsimp only at hSw); go_simp; (try with_reducible rfl))
  try simp only [Act.put, List.setIfInBounds_toArray, List.set_cons_zero, List.set_cons_succ]
  refine wpAnyH_take (i := 9) (oi := { dst := some 14, op := Op.fieldAddr 172 (Operand.tmp 13) 2, type := 0, pos := "lisp.go:276", after := #[{ on := 8, ground := Ground.data }], guard := none }) (v := ?vq9) rfl (by kernel_rfl) (by kernel_rfl) (by kernel_rfl) (fun _ _ _ h => h) (Or.inl ⟨by rfl, ?hyq9⟩) hHeld ?_
  case hyq9 => (intro w hSw; (try dsimp only at hSw); go_simp; (try with_reducible rfl))
  try simp only [Act.put, List.setIfInBounds_toArray, List.set_cons_zero, List.set_cons_succ]
  refine wpAnyH_take (i := 10) (oi := { dst := some 15, op := Op.load 3 (Operand.tmp 14), type := 3, pos := "lisp.go:276", after := #[{ on := 9, ground := Ground.data }], guard := none }) (v := ?vq10) rfl (by kernel_rfl) (by kernel_rfl) (by kernel_rfl) (fun _ _ _ h => h) (Or.inl ⟨by rfl, ?hyq10⟩) hHeld ?_
  case hyq10 => (intro w hSw; (try dsimp only at hSw); go_simp; (try with_reducible rfl))
  try simp only [Act.put, List.setIfInBounds_toArray, List.set_cons_zero, List.set_cons_succ]
  refine wpAnyH_take (i := 11) (oi := { dst := some 16, op := Op.move (Operand.tmp 1), type := 3, pos := "lisp.go:276", after := #[], guard := none }) (v := ?vq11) rfl (by kernel_rfl) (by kernel_rfl) (by kernel_rfl) (fun _ _ _ h => h) (Or.inl ⟨by rfl, ?hyq11⟩) hHeld ?_
  case hyq11 => (intro w hSw; (try dsimp only at hSw); go_simp; (try with_reducible rfl))
  try simp only [Act.put, List.setIfInBounds_toArray, List.set_cons_zero, List.set_cons_succ]
  refine wpAnyH_ready (rs := [12]) (by kernel_rfl) (by simp) ?_
  refine AllReadyH.cons (o := { dst := some 17, op := Op.call { callee := Callee.value (Operand.func 191), args := #[Operand.tmp 11, Operand.tmp 15, Operand.tmp 16], argTypes := #[88, 3, 3] }, type := 3, pos := "lisp.go:276", after := #[{ on := 6, ground := Ground.data }, { on := 10, ground := Ground.data }, { on := 11, ground := Ground.data }], guard := none }) rfl (fun K hK => ?_) AllReadyH.nil
  go_simp
  refine HC.out.mono ?_
  rintro e V1 ⟨rfl, hb⟩
  have HB := Lib.hid hb
  have HW1 := Lib.hid (HW.out.drew.below hb)
  clear hb HC hHeld HW c0 c14 h1 h2 h3 h4
  obtain ⟨c0, _, _, _, _, _, _, _, _, _, _, _, _, _, c14, _⟩ := HW1.out.cells
  obtain ⟨_, ⟨h1, h2, h3, h4⟩, _⟩ := HW1.out.hand.cells
  refine hK.out _ _ ?_ (fun hHeld => ?_)
  · exact ⟨c0, c14, h1, h2, h3, h4⟩
  clear hK K
  try simp only [Act.put, List.setIfInBounds_toArray, List.set_cons_zero, List.set_cons_succ]
  refine wpAnyH_take (i := 13) (oi := { dst := some 4, op := Op.assign (Operand.tmp 17), type := 3, pos := "lisp.go:276", after := #[{ on := 12, ground := Ground.data }, { on := 12, ground := Ground.chain }, { on := 0, ground := Ground.phase }, { on := 1, ground := Ground.phase }, { on := 2, ground := Ground.phase }, { on := 3, ground := Ground.phase }, { on := 4, ground := Ground.phase }, { on := 5, ground := Ground.phase }, { on := 6, ground := Ground.phase }, { on := 7, ground := Ground.phase }, { on := 8, ground := Ground.phase }, { on := 9, ground := Ground.phase }, { on := 10, ground := Ground.phase }, { on := 11, ground := Ground.phase }, { on := 12, ground := Ground.phase }], guard := none }) (v := ?vq13) rfl (by kernel_rfl) (by kernel_rfl) (by kernel_rfl) (fun _ _ _ h => h) (Or.inl ⟨by rfl, ?hyq13⟩) hHeld ?_
  case hyq13 => (intro w hSw; (try dsimp only at hSw); go_simp; (try with_reducible rfl))
  try simp only [Act.put, List.setIfInBounds_toArray, List.set_cons_zero, List.set_cons_succ]
  refine wpAnyH_done (by kernel_rfl) ?_ _
  clear hHeld HW1 c0 c14 h1 h2 h3 h4
  go_wp2_with fail
  go_ret
  exact ⟨rfl, belowOn (Below.refl _ _).drew HB.out⟩
end Go.Proofs.YtbpooljohjkbjaaGreatDoor
/- A worker's small calls: the place of a part, what needs a cell. -/
namespace Go.Proofs.YtbpooljohjkbjaaGreatDoor
open Go Go.RowKit
set_option maxRecDepth 100000
attribute [local go_sem ↓] Go.wp_at_zero Go.wp_at_succ
theorem atom_i (b : Int) (h : b ≤ 9223372036854775807) (w : World) : Calls Tryz.prog 181 #[.int .i64 b] w fun e w' => e = .returned (.int .u64 (atomW b)) ∧ w = w' := by
  unfold atomW
  by_cases h0 : b < 0
  · rw [if_pos h0]; exact atom_neg b h0 w
  · rw [if_neg h0]
    obtain ⟨k, rfl⟩ : ∃ k : Nat, b = k := ⟨b.toNat, by omega⟩
    refine (atom_pos k (by omega) w).mono ?_
    rintro e w' ⟨rfl, rfl⟩
    exact ⟨rfl, rfl⟩
theorem field_i {w : World} {H A G : Nat} {C : Cf} {s : Dy} (hH : HAt w H A G C s) (hS : SpansAt w) (z : Int) (hz : U64 z) (p : Int) :
    Calls Tryz.prog 127 #[.pointer (some ⟨H, 0, none⟩), .int .u64 z, .int .i64 p] w fun e w' => e = .returned (.int .i64 (fieldP C.a C.b C.c C.d z.toNat p)) ∧ Below w.heap.size w w' := by
  obtain ⟨v, rfl, hv⟩ := u64_nat' hz
  rw [Int.toNat_natCast]
  exact hField_c hH hS v hv p
theorem truth_c (b : Bool) (w : World) : Calls Tryz.prog 188 #[.bool b] w fun e w' => e = .returned (.int .i64 (if b then 2 else 3)) ∧ w = w' := by
  cases b
  all_goals
    go_enter Tryz.func188, Tryz.ntmps188
    go_wp2_with fail
    go_ret
    exact ⟨rfl, rfl⟩
set_option maxHeartbeats 1600000 in
theorem partOf_c {w : World} {B H A G : Nat} {C : Cf} {m : Int} {s : Dy} {x : Mu} (h : WkAt w B H A G C m s x) (hS : SpansAt w) (z : Int) (hz : U64 z) :
    Calls Tryz.prog 186 #[.pointer (some ⟨B, 0, none⟩), .int .u64 z] w fun e w' => e = .returned (.int .i64 (fieldP C.a C.b C.c C.d z.toNat (partK x.q1))) ∧ Below w.heap.size w w' := by
  obtain ⟨c0, _, c2, _⟩ := h.cells
  by_cases h4 : x.q1 = 4
  · rw [show partK x.q1 = 0 by unfold partK; rw [if_pos (.inl h4)]]
    rw [h4] at c2
    have HC := Lib.hid (field_i h.hand hS z hz 0)
    generalize fieldP C.a C.b C.c C.d z.toNat 0 = P at *
    clear h hS hz
    go_enter Tryz.func186, Tryz.ntmps186
    go_wp2_with fail
    refine HC.out.mono ?_
    rintro e V1 ⟨rfl, hb⟩
    have HB := Lib.hid hb
    clear hb HC c0 c2
    go_wp2_with fail
    go_ret
    exact ⟨rfl, HB.out⟩
  · by_cases h6 : x.q1 = 6
    · rw [show partK x.q1 = 0 by unfold partK; rw [if_pos (.inr h6)]]
      rw [h6] at c2
      have HC := Lib.hid (field_i h.hand hS z hz 0)
      generalize fieldP C.a C.b C.c C.d z.toNat 0 = P at *
      clear h hS hz
      go_enter Tryz.func186, Tryz.ntmps186
      go_wp2_with fail
      refine HC.out.mono ?_
      rintro e V1 ⟨rfl, hb⟩
      have HB := Lib.hid hb
      clear hb HC c0 c2
      go_wp2_with fail
      go_ret
      exact ⟨rfl, HB.out⟩
    · rw [show partK x.q1 = 1 by unfold partK; rw [if_neg (fun e => e.elim h4 h6)]]
      have g4 : (x.q1 == 4) = false := by simpa using h4
      have g6 : (x.q1 == 6) = false := by simpa using h6
      have HC := Lib.hid (field_i h.hand hS z hz 1)
      generalize fieldP C.a C.b C.c C.d z.toNat 1 = P at *
      clear h hS hz
      go_enter Tryz.func186, Tryz.ntmps186
      go_wp2_with fail
      refine HC.out.mono ?_
      rintro e V1 ⟨rfl, hb⟩
      have HB := Lib.hid hb
      clear hb HC c0 c2
      go_wp2_with fail
      go_ret
      exact ⟨rfl, HB.out⟩
set_option maxHeartbeats 1600000 in
theorem needCell_c {w : World} {B H A G : Nat} {C : Cf} {m : Int} {s : Dy} {x : Mu} (h : WkAt w B H A G C m s x) (hz : U64 x.m1) (k : Int) :
    Calls Tryz.prog 185 #[.pointer (some ⟨B, 0, none⟩), .int .i64 k] w (WPost w B H A G C m (.bool (!decide (isC x.m1.toNat))) s (if isC x.m1.toNat then { x with l := k } else { x with l := 90, rt := 4 })) := by
  obtain ⟨v, hm, hv⟩ := u64_nat' hz
  clear hz
  have hn : x.m1.toNat = v := by rw [hm]; rfl
  rw [hn]; clear hn
  by_cases hc : isC v
  · rw [if_pos hc, decide_eq_true hc, show (!true) = false from rfl]
    have HI := Lib.hid (fun W => isCell_cell v hc.2 hc.1 W)
    have HW0 := Lib.hid h
    clear h
    obtain ⟨c0, c1, c2, c3, c4, c5, c6, c7, c8, c9, c10, c11, c12, c13, c14, cf⟩ := HW0.out.cells
    (try dsimp only at c1 c2 c3 c4 c5 c6 c7 c8 c9 c10 c11 c12 c13)
    rw [hm] at c6
    go_enter Tryz.func185, Tryz.ntmps185
    go_wp2_with fail
    refine (HI.out _).mono ?_
    rintro e V1 ⟨rfl, rfl⟩
    go_wp2_with fail
    refine (goOn_c' HW0.out k).mono ?_
    rintro e V2 ⟨rfl, hW, hs⟩
    have HW1 := Lib.hid hW; have HQ1 := Lib.hid hs
    clear HI hW hs HW0 c0 c1 c2 c3 c4 c5 c6 c7 c8 c9 c10 c11 c12 c13 c14 cf
    go_wp2_with fail
    go_ret
    exact ⟨rfl, HW1.out, HQ1.out⟩
  · rw [if_neg hc, decide_eq_false hc, show (!false) = true from rfl]
    have HI := Lib.hid (fun W => isCell_no v hv hc W)
    have HW0 := Lib.hid h
    clear h
    obtain ⟨c0, c1, c2, c3, c4, c5, c6, c7, c8, c9, c10, c11, c12, c13, c14, cf⟩ := HW0.out.cells
    (try dsimp only at c1 c2 c3 c4 c5 c6 c7 c8 c9 c10 c11 c12 c13)
    rw [hm] at c6
    go_enter Tryz.func185, Tryz.ntmps185
    go_wp2_with fail
    refine (HI.out _).mono ?_
    rintro e V1 ⟨rfl, rfl⟩
    go_wp2_with fail
    refine (end_c HW0.out 4).mono ?_
    rintro e V2 ⟨rfl, hW, hs⟩
    have HW1 := Lib.hid hW; have HQ1 := Lib.hid hs
    clear HI hW hs HW0 c0 c1 c2 c3 c4 c5 c6 c7 c8 c9 c10 c11 c12 c13 c14 cf
    go_wp2_with fail
    go_ret
    exact ⟨rfl, HW1.out, HQ1.out⟩
end Go.Proofs.YtbpooljohjkbjaaGreatDoor
/- The map of layer 14's own lines. -/
namespace Go.Proofs.YtbpooljohjkbjaaGreatDoor
open Go Go.RowKit
set_option maxRecDepth 100000
attribute [local go_sem ↓] Go.wp_at_zero Go.wp_at_succ
def fnElem : Value → Option (DataW Unit × List MemPlace)
  | .func (.func k) a c => if a.size = 0 ∧ c.size = 0 then some (.lit (.int .i64 k), []) else none
  | .nilFunc => some (.lit (.int .i64 (-1)), [])
  | _ => none
theorem fnElem_mk (k : Nat) : fnElem (.func (.func k) #[] #[]) = some (.lit (.int .i64 k), []) := by simp [fnElem]
theorem fnElem_nil : fnElem .nilFunc = some (.lit (.int .i64 (-1)), []) := rfl
theorem fnElem_inv {v : Value} {k : Nat} {ps : List MemPlace} (h : fnElem v = some (.lit (.int .i64 k), ps)) : v = .func (.func k) #[] #[] := by
  unfold fnElem at h
  split at h
  · rename_i j a c
    split at h
    · rename_i hc
      simp only [Option.some.injEq, Prod.mk.injEq, DataW.lit.injEq, Lit.int.injEq, true_and] at h
      obtain ⟨ha, hb⟩ := hc
      have e1 : a = #[] := Array.eq_empty_of_size_eq_zero ha
      have e2 : c = #[] := Array.eq_empty_of_size_eq_zero hb
      subst e1; subst e2
      have h1 := h.1
      have : j = k := Int.ofNat.inj (show Int.ofNat j = Int.ofNat k from h1)
      rw [this]
    · cases h
  · simp only [Option.some.injEq, Prod.mk.injEq, DataW.lit.injEq, Lit.int.injEq, true_and] at h
    have h1 : (-1 : Int) = (k : Int) := h.1
    have h2 : (0 : Int) ≤ (k : Int) := Int.natCast_nonneg k
    rw [← h1] at h2
    exact absurd h2 (by decide)
  · cases h
def fnV : Option Nat → Int
  | some k => k
  | none => -1
def TellsF (D : DataW Unit) (k : Int) (v : Option Nat) : Prop := Maps.has D (.int .i64 k) = v.isSome ∧ D.atKey (.int .i64 k) (.lit (.int .i64 (-1))) = .lit (.int .i64 (fnV v))
theorem TellsF.put {D : DataW Unit} {k : Int} {v : Option Nat} (hD : Maps.IsMap D) (h : TellsF D k v) (j : Int) (x : Nat) : TellsF (D.put (.int .i64 j) (.lit (.int .i64 x))) k (if k = j then some x else v) := by
  by_cases e : k = j
  · subst e
    rw [if_pos rfl]
    exact ⟨Maps.has_put_same hD (k := .int .i64 k) trivial _, Maps.atKey_put_same hD (k := .int .i64 k) trivial _ _⟩
  · rw [if_neg e]
    have hne : (Lit.int .i64 k) ≠ .int .i64 j := fun q => e (by injection q)
    exact ⟨(Maps.has_put_other hne _).trans h.1, (Maps.atKey_put_other hne _ _).trans h.2⟩
def ownK (k : Int) : Option Nat := (if k = 40 then some 165 else (if k = 39 then some 164 else (if k = 38 then some 163 else (if k = 31 then some 162 else (if k = 30 then some 161 else (if k = 24 then some 160 else (if k = 23 then some 159 else (if k = 22 then some 158 else (if k = 21 then some 157 else (if k = 20 then some 156 else (if k = 19 then some 155 else (if k = 18 then some 154 else (if k = 17 then some 153 else (if k = 16 then some 152 else (if k = 15 then some 151 else (if k = 14 then some 150 else (if k = 13 then some 149 else (if k = 12 then some 148 else (if k = 11 then some 147 else (if k = 10 then some 146 else none))))))))))))))))))))
theorem zeroFn (w : World) : (zeroValue 167).run Tryz.prog w = .ok .nilFunc w := by kernel_rfl
def OwnLines (w : World) (e : Ending) (w' : World) : Prop := ∃ D : DataW Unit, e = .returned (.map (some w.heap.size)) ∧ w'.ownsMap Tryz.prog 3 fnElem w.heap.size 20 D ∧ (∀ k, TellsF D k (ownK k)) ∧ Below w.heap.size w w'
set_option maxHeartbeats 3200000 in
theorem ownLines_c (w : World) : Calls Tryz.prog 112 #[] w (OwnLines w) := by
  have hmm := @run_makeMap Tryz.prog
  have o0 := World.ownsMap_made (H := Unit) w Tryz.prog 3 fnElem
  have b0 : Below w.heap.size w (w.alloc (.map #[] 0)) := below_new w _
  have i0 : Maps.IsMap (.map [] : DataW Unit) := Maps.isMap_empty
  have t0 : ∀ k, TellsF (.map [] : DataW Unit) k none := fun k => ⟨rfl, rfl⟩
  obtain ⟨V1, r1, o1, g1⟩ := o0.update keyedInt Tryz.underlying169 (by unfold maxLen; omega) (key := .int .i64 10) (val := .func (.func 146) #[] #[]) (Maps.keyOf_int_mk Tryz.underlying3 (by decide)) (fnElem_mk 146)
  have b1 := b0.grown g1 b0.size (fun j hj => by cases hj; exact Nat.le_refl _)
  have i1 := i0.put (.int .i64 10) (.lit (.int .i64 ((146 : Nat) : Int)))
  have t1 := fun q => (t0 q).put i0 10 146
  clear o0 g1 b0 i0 t0
  obtain ⟨V2, r2, o2, g2⟩ := o1.update keyedInt Tryz.underlying169 (by unfold maxLen; omega) (key := .int .i64 11) (val := .func (.func 147) #[] #[]) (Maps.keyOf_int_mk Tryz.underlying3 (by decide)) (fnElem_mk 147)
  have b2 := b1.grown g2 b1.size (fun j hj => by cases hj; exact Nat.le_refl _)
  have i2 := i1.put (.int .i64 11) (.lit (.int .i64 ((147 : Nat) : Int)))
  have t2 := fun q => (t1 q).put i1 11 147
  clear o1 g2 b1 i1 t1
  obtain ⟨V3, r3, o3, g3⟩ := o2.update keyedInt Tryz.underlying169 (by unfold maxLen; omega) (key := .int .i64 12) (val := .func (.func 148) #[] #[]) (Maps.keyOf_int_mk Tryz.underlying3 (by decide)) (fnElem_mk 148)
  have b3 := b2.grown g3 b2.size (fun j hj => by cases hj; exact Nat.le_refl _)
  have i3 := i2.put (.int .i64 12) (.lit (.int .i64 ((148 : Nat) : Int)))
  have t3 := fun q => (t2 q).put i2 12 148
  clear o2 g3 b2 i2 t2
  obtain ⟨V4, r4, o4, g4⟩ := o3.update keyedInt Tryz.underlying169 (by unfold maxLen; omega) (key := .int .i64 13) (val := .func (.func 149) #[] #[]) (Maps.keyOf_int_mk Tryz.underlying3 (by decide)) (fnElem_mk 149)
  have b4 := b3.grown g4 b3.size (fun j hj => by cases hj; exact Nat.le_refl _)
  have i4 := i3.put (.int .i64 13) (.lit (.int .i64 ((149 : Nat) : Int)))
  have t4 := fun q => (t3 q).put i3 13 149
  clear o3 g4 b3 i3 t3
  obtain ⟨V5, r5, o5, g5⟩ := o4.update keyedInt Tryz.underlying169 (by unfold maxLen; omega) (key := .int .i64 14) (val := .func (.func 150) #[] #[]) (Maps.keyOf_int_mk Tryz.underlying3 (by decide)) (fnElem_mk 150)
  have b5 := b4.grown g5 b4.size (fun j hj => by cases hj; exact Nat.le_refl _)
  have i5 := i4.put (.int .i64 14) (.lit (.int .i64 ((150 : Nat) : Int)))
  have t5 := fun q => (t4 q).put i4 14 150
  clear o4 g5 b4 i4 t4
  obtain ⟨V6, r6, o6, g6⟩ := o5.update keyedInt Tryz.underlying169 (by unfold maxLen; omega) (key := .int .i64 15) (val := .func (.func 151) #[] #[]) (Maps.keyOf_int_mk Tryz.underlying3 (by decide)) (fnElem_mk 151)
  have b6 := b5.grown g6 b5.size (fun j hj => by cases hj; exact Nat.le_refl _)
  have i6 := i5.put (.int .i64 15) (.lit (.int .i64 ((151 : Nat) : Int)))
  have t6 := fun q => (t5 q).put i5 15 151
  clear o5 g6 b5 i5 t5
  obtain ⟨V7, r7, o7, g7⟩ := o6.update keyedInt Tryz.underlying169 (by unfold maxLen; omega) (key := .int .i64 16) (val := .func (.func 152) #[] #[]) (Maps.keyOf_int_mk Tryz.underlying3 (by decide)) (fnElem_mk 152)
  have b7 := b6.grown g7 b6.size (fun j hj => by cases hj; exact Nat.le_refl _)
  have i7 := i6.put (.int .i64 16) (.lit (.int .i64 ((152 : Nat) : Int)))
  have t7 := fun q => (t6 q).put i6 16 152
  clear o6 g7 b6 i6 t6
  obtain ⟨V8, r8, o8, g8⟩ := o7.update keyedInt Tryz.underlying169 (by unfold maxLen; omega) (key := .int .i64 17) (val := .func (.func 153) #[] #[]) (Maps.keyOf_int_mk Tryz.underlying3 (by decide)) (fnElem_mk 153)
  have b8 := b7.grown g8 b7.size (fun j hj => by cases hj; exact Nat.le_refl _)
  have i8 := i7.put (.int .i64 17) (.lit (.int .i64 ((153 : Nat) : Int)))
  have t8 := fun q => (t7 q).put i7 17 153
  clear o7 g8 b7 i7 t7
  obtain ⟨V9, r9, o9, g9⟩ := o8.update keyedInt Tryz.underlying169 (by unfold maxLen; omega) (key := .int .i64 18) (val := .func (.func 154) #[] #[]) (Maps.keyOf_int_mk Tryz.underlying3 (by decide)) (fnElem_mk 154)
  have b9 := b8.grown g9 b8.size (fun j hj => by cases hj; exact Nat.le_refl _)
  have i9 := i8.put (.int .i64 18) (.lit (.int .i64 ((154 : Nat) : Int)))
  have t9 := fun q => (t8 q).put i8 18 154
  clear o8 g9 b8 i8 t8
  obtain ⟨V10, r10, o10, g10⟩ := o9.update keyedInt Tryz.underlying169 (by unfold maxLen; omega) (key := .int .i64 19) (val := .func (.func 155) #[] #[]) (Maps.keyOf_int_mk Tryz.underlying3 (by decide)) (fnElem_mk 155)
  have b10 := b9.grown g10 b9.size (fun j hj => by cases hj; exact Nat.le_refl _)
  have i10 := i9.put (.int .i64 19) (.lit (.int .i64 ((155 : Nat) : Int)))
  have t10 := fun q => (t9 q).put i9 19 155
  clear o9 g10 b9 i9 t9
  obtain ⟨V11, r11, o11, g11⟩ := o10.update keyedInt Tryz.underlying169 (by unfold maxLen; omega) (key := .int .i64 20) (val := .func (.func 156) #[] #[]) (Maps.keyOf_int_mk Tryz.underlying3 (by decide)) (fnElem_mk 156)
  have b11 := b10.grown g11 b10.size (fun j hj => by cases hj; exact Nat.le_refl _)
  have i11 := i10.put (.int .i64 20) (.lit (.int .i64 ((156 : Nat) : Int)))
  have t11 := fun q => (t10 q).put i10 20 156
  clear o10 g11 b10 i10 t10
  obtain ⟨V12, r12, o12, g12⟩ := o11.update keyedInt Tryz.underlying169 (by unfold maxLen; omega) (key := .int .i64 21) (val := .func (.func 157) #[] #[]) (Maps.keyOf_int_mk Tryz.underlying3 (by decide)) (fnElem_mk 157)
  have b12 := b11.grown g12 b11.size (fun j hj => by cases hj; exact Nat.le_refl _)
  have i12 := i11.put (.int .i64 21) (.lit (.int .i64 ((157 : Nat) : Int)))
  have t12 := fun q => (t11 q).put i11 21 157
  clear o11 g12 b11 i11 t11
  obtain ⟨V13, r13, o13, g13⟩ := o12.update keyedInt Tryz.underlying169 (by unfold maxLen; omega) (key := .int .i64 22) (val := .func (.func 158) #[] #[]) (Maps.keyOf_int_mk Tryz.underlying3 (by decide)) (fnElem_mk 158)
  have b13 := b12.grown g13 b12.size (fun j hj => by cases hj; exact Nat.le_refl _)
  have i13 := i12.put (.int .i64 22) (.lit (.int .i64 ((158 : Nat) : Int)))
  have t13 := fun q => (t12 q).put i12 22 158
  clear o12 g13 b12 i12 t12
  obtain ⟨V14, r14, o14, g14⟩ := o13.update keyedInt Tryz.underlying169 (by unfold maxLen; omega) (key := .int .i64 23) (val := .func (.func 159) #[] #[]) (Maps.keyOf_int_mk Tryz.underlying3 (by decide)) (fnElem_mk 159)
  have b14 := b13.grown g14 b13.size (fun j hj => by cases hj; exact Nat.le_refl _)
  have i14 := i13.put (.int .i64 23) (.lit (.int .i64 ((159 : Nat) : Int)))
  have t14 := fun q => (t13 q).put i13 23 159
  clear o13 g14 b13 i13 t13
  obtain ⟨V15, r15, o15, g15⟩ := o14.update keyedInt Tryz.underlying169 (by unfold maxLen; omega) (key := .int .i64 24) (val := .func (.func 160) #[] #[]) (Maps.keyOf_int_mk Tryz.underlying3 (by decide)) (fnElem_mk 160)
  have b15 := b14.grown g15 b14.size (fun j hj => by cases hj; exact Nat.le_refl _)
  have i15 := i14.put (.int .i64 24) (.lit (.int .i64 ((160 : Nat) : Int)))
  have t15 := fun q => (t14 q).put i14 24 160
  clear o14 g15 b14 i14 t14
  obtain ⟨V16, r16, o16, g16⟩ := o15.update keyedInt Tryz.underlying169 (by unfold maxLen; omega) (key := .int .i64 30) (val := .func (.func 161) #[] #[]) (Maps.keyOf_int_mk Tryz.underlying3 (by decide)) (fnElem_mk 161)
  have b16 := b15.grown g16 b15.size (fun j hj => by cases hj; exact Nat.le_refl _)
  have i16 := i15.put (.int .i64 30) (.lit (.int .i64 ((161 : Nat) : Int)))
  have t16 := fun q => (t15 q).put i15 30 161
  clear o15 g16 b15 i15 t15
  obtain ⟨V17, r17, o17, g17⟩ := o16.update keyedInt Tryz.underlying169 (by unfold maxLen; omega) (key := .int .i64 31) (val := .func (.func 162) #[] #[]) (Maps.keyOf_int_mk Tryz.underlying3 (by decide)) (fnElem_mk 162)
  have b17 := b16.grown g17 b16.size (fun j hj => by cases hj; exact Nat.le_refl _)
  have i17 := i16.put (.int .i64 31) (.lit (.int .i64 ((162 : Nat) : Int)))
  have t17 := fun q => (t16 q).put i16 31 162
  clear o16 g17 b16 i16 t16
  obtain ⟨V18, r18, o18, g18⟩ := o17.update keyedInt Tryz.underlying169 (by unfold maxLen; omega) (key := .int .i64 38) (val := .func (.func 163) #[] #[]) (Maps.keyOf_int_mk Tryz.underlying3 (by decide)) (fnElem_mk 163)
  have b18 := b17.grown g18 b17.size (fun j hj => by cases hj; exact Nat.le_refl _)
  have i18 := i17.put (.int .i64 38) (.lit (.int .i64 ((163 : Nat) : Int)))
  have t18 := fun q => (t17 q).put i17 38 163
  clear o17 g18 b17 i17 t17
  obtain ⟨V19, r19, o19, g19⟩ := o18.update keyedInt Tryz.underlying169 (by unfold maxLen; omega) (key := .int .i64 39) (val := .func (.func 164) #[] #[]) (Maps.keyOf_int_mk Tryz.underlying3 (by decide)) (fnElem_mk 164)
  have b19 := b18.grown g19 b18.size (fun j hj => by cases hj; exact Nat.le_refl _)
  have i19 := i18.put (.int .i64 39) (.lit (.int .i64 ((164 : Nat) : Int)))
  have t19 := fun q => (t18 q).put i18 39 164
  clear o18 g19 b18 i18 t18
  obtain ⟨V20, r20, o20, g20⟩ := o19.update keyedInt Tryz.underlying169 (by unfold maxLen; omega) (key := .int .i64 40) (val := .func (.func 165) #[] #[]) (Maps.keyOf_int_mk Tryz.underlying3 (by decide)) (fnElem_mk 165)
  have b20 := b19.grown g20 b19.size (fun j hj => by cases hj; exact Nat.le_refl _)
  have i20 := i19.put (.int .i64 40) (.lit (.int .i64 ((165 : Nat) : Int)))
  have t20 := fun q => (t19 q).put i19 40 165
  clear o19 g20 b19 i19 t19
  have O := Lib.hid o20; have BB := Lib.hid b20; have TT := Lib.hid t20
  clear o20 b20 t20 i20
  go_enter Tryz.func112, Tryz.ntmps112
  go_wp2_with fail
  go_ret
  exact ⟨_, rfl, O.out, TT.out, BB.out⟩
end Go.Proofs.YtbpooljohjkbjaaGreatDoor
