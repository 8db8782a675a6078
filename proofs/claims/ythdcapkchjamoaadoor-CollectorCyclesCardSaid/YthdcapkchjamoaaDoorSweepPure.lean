/- A sweep of all cells, without memory. -/
import Derived.Test.YthdcapkchjamoaaDoorPassPure
import Derived.Test.YthdcapkchjamoaaDoorM14
namespace Go.Proofs.YthdcapkchjamoaaDoor
open Go Go.RowKit
set_option maxRecDepth 100000

theorem nxF_cdr {C : Cf} (hC : CfOK C) (f : Nat → Int) {i : Nat} (hi : (i : Int) < C.a) : nxF C.b C.c C.d f i = f (cdrI C i) := by
  unfold nxF cdrI
  rw [(cdrP_part hC.right hi).1]; rfl
/-- A cell more behind a chain. -/
theorem ChainL.more {nx nx' : Nat → Int} {a : Nat} {c : Nat} (hca : c < a) (hc0 : nx' c = 0) : ∀ {w : Int} {L : List Nat} (hL : L ≠ []), ChainL nx a w L → (∀ i ∈ L, i ≠ L.getLast hL → nx' i = nx i) → nx' (L.getLast hL) = 2 * (c : Int) + 1 → L.Nodup → ChainL nx' a w (L ++ [c])
  | _, [], hL, _, _, _, _ => absurd rfl hL
  | w, [i], _, h, _, h2, _ => ⟨h.1, h.2.1, by rw [show nx' i = 2 * (c : Int) + 1 from h2]; exact ⟨rfl, hca, hc0⟩⟩
  | w, i :: j :: l, _, h, h1, h2, hn => by
    have hnd := List.nodup_cons.1 hn
    refine ⟨h.1, h.2.1, ?_⟩
    have hne : i ≠ (i :: j :: l).getLast (by simp) := fun e => by
      have : (i :: j :: l).getLast (by simp) ∈ j :: l := by rw [List.getLast_cons (by simp)]; exact List.getLast_mem _
      rw [← e] at this
      exact hnd.1 this
    rw [h1 i (by simp) hne]
    refine ChainL.more hca hc0 (L := j :: l) (by simp) h.2.2 (fun k hk hk2 => h1 k (List.mem_cons_of_mem _ hk) (by rw [List.getLast_cons (by simp)]; exact hk2)) ?_ hnd.2
    rw [List.getLast_cons (by simp)] at h2
    exact h2
theorem ChainL.last0 {nx : Nat → Int} {a : Nat} : ∀ {w : Int} {L : List Nat} (hL : L ≠ []), ChainL nx a w L → nx (L.getLast hL) = 0
  | _, [], hL, _ => absurd rfl hL
  | _, [i], _, h => h.2.2
  | _, i :: j :: l, _, h => by
    rw [List.getLast_cons (by simp)]
    exact ChainL.last0 (L := j :: l) (by simp) h.2.2
/-- How far a sweep is, behind n steps: W: the cells that were appended. -/
structure SwSt (C : Cf) (f0 f : Nat → Int) (L0 : List Nat) (cy : Int) (n : Nat) (W : List Nat) (x : Co) : Prop where
  base : ∀ k : Nat, (spotF C.b C.c C.d k).1 < 4 → f k = f0 k
  car : ∀ i : Nat, (i : Int) < C.a → f (carI C i) = if f0 (colI C i) = 0 ∧ ((i : Int) < x.c ∨ ((i : Int) = x.c ∧ 22 ≤ x.l)) then 0 else f0 (carI C i)
  col : ∀ i : Nat, (i : Int) < C.a → f (colI C i) = if f0 (colI C i) = 2 ∧ (i : Int) < x.c then 0 else f0 (colI C i)
  cdr : ∀ i : Nat, (i : Int) < C.a → f0 (colI C i) ≠ 0 → L0.getLast? ≠ some i → f (cdrI C i) = f0 (cdrI C i)
  chain : ChainL (nxF C.b C.c C.d f) C.a.toNat (f 0) (L0 ++ W)
  tl : ∃ t : Nat, x.tl = t ∧ (L0 ++ W).getLast? = some t
  app : ∀ i ∈ W, (i : Int) < x.c ∧ f0 (colI C i) = 0
  all : ∀ i : Nat, (i : Int) < x.c → f0 (colI C i) = 0 → i ∈ W
  line : (20 ≤ x.l ∧ x.l ≤ 24 ∧ 0 ≤ x.c ∧ x.c < C.a ∧ x.cy = cy ∧ n ≤ 4 * x.c.toNat + (x.l.toNat - 20) ∧ (21 ≤ x.l → x.l ≤ 23 → f0 (colI C x.c.toNat) = 0) ∧ (x.l = 23 → f (cdrI C x.c.toNat) = 0) ∧ (x.l = 24 → f0 (colI C x.c.toNat) = 2 ∧ n ≤ 4 * x.c.toNat + 1)) ∨
    (x.l = 1 ∧ x.c = C.a ∧ x.cy = cy + 1)
theorem SwSt.first {C : Cf} (hC : CfOK C) {f0 : Nat → Int} {L0 : List Nat} (hch : ChainL (nxF C.b C.c C.d f0) C.a.toNat (f0 0) L0) {t : Nat} (ht : L0.getLast? = some t) (x : Co) (hl : x.l = 20) (hc : x.c = 0) (htl : x.tl = t) : SwSt C f0 f0 L0 x.cy 0 [] x := by
  have h4 := hC.a4
  refine ⟨fun _ _ => rfl, fun i hi => ?_, fun i hi => ?_, fun _ _ _ _ => rfl, by simpa using hch, ⟨t, htl, by simpa using ht⟩, fun i hi => (by cases hi), fun i hi => by omega, .inl ⟨by omega, by omega, by omega, by omega, rfl, by omega, fun q => by omega, fun q => by omega, fun q => by omega⟩⟩
  · rw [if_neg]; intro q; omega
  · rw [if_neg]; intro q; omega
theorem getLast_of {L : List Nat} {t : Nat} (h : L.getLast? = some t) : ∃ hL : L ≠ [], L.getLast hL = t := by
  cases L with
  | nil => cases h
  | cons i l => exact ⟨by simp, by rw [List.getLast?_eq_some_getLast (by simp)] at h; exact Option.some.inj h⟩
theorem SwSt.go {C : Cf} (hC : CfOK C) {s : Dy} {f0 : Nat → Int} {L0 : List Nat} {cy : Int} {n : Nat} {W : List Nat} {x : Co} (hnw : ∀ i ∈ L0, f0 (colI C i) ≠ 0) (h : SwSt C f0 s.f L0 cy n W x) (hl : 20 ≤ x.l) :
    ∃ s' x' what, sweepS C s x = (s', x', what, true) ∧ SwSt C f0 s'.f L0 cy (n + 1) (if what = 2 ∨ what = 5 then W ++ [x.c.toNat] else W) x' ∧ n ≤ 5 * C.a.toNat ∧ 0 ≤ x.c ∧ x.c < C.a := by
  have h4 := hC.a4
  rcases h.line with ⟨g1, g2, c0, c1, ecy, hn, i1, i3, i4⟩ | ⟨e, _⟩
  · have hbound : n ≤ 5 * C.a.toNat := by omega
    obtain ⟨c, hc⟩ : ∃ c : Nat, x.c = c := ⟨x.c.toNat, by omega⟩
    obtain ⟨xl, xj, xc, xm, xa, xp, xfd, xtl, xcy⟩ := x
    obtain ⟨b1, b2, b3, b4, b5, b6, b7, b8, _⟩ := h
    dsimp only at *
    subst hc
    simp only [Int.toNat_natCast] at *
    have hcol := colI_sp hC (i := c) c1
    have hcar := carI_sp hC (i := c) c1
    have hcdr := cdrI_sp hC (i := c) c1
    have hwl : ∀ p, (s.act C 1 p 0 0).f = s.f := fun p => words_load _ _ _
    have ne1 : ∀ i : Nat, (i : Int) < C.a → ∀ k : Nat, (spotF C.b C.c C.d k).1 < 4 → carI C i ≠ k ∧ cdrI C i ≠ k ∧ colI C i ≠ k := fun i hi k hk => by
      refine ⟨fun e => ?_, fun e => ?_, fun e => ?_⟩
      · have := (carI_sp hC hi).2.2; rw [e] at this; rw [this] at hk; exact absurd hk (by simp)
      · have := (cdrI_sp hC hi).2.2; rw [e] at this; rw [this] at hk; exact absurd hk (by simp)
      · have := (colI_sp hC hi).2.2; rw [e] at this; rw [this] at hk; exact absurd hk (by simp)
    have ne2 : ∀ i j : Nat, (i : Int) < C.a → (j : Int) < C.a → carI C i ≠ cdrI C j ∧ carI C i ≠ colI C j ∧ cdrI C i ≠ colI C j ∧ (carI C i = carI C j → i = j) ∧ (cdrI C i = cdrI C j → i = j) ∧ (colI C i = colI C j → i = j) := fun i j hi hj => by
      have a1 := (carI_sp hC hi).2.2; have a2 := (cdrI_sp hC hi).2.2; have a3 := (colI_sp hC hi).2.2
      have d1 := (carI_sp hC hj).2.2; have d2 := (cdrI_sp hC hj).2.2; have d3 := (colI_sp hC hj).2.2
      refine ⟨fun e => ?_, fun e => ?_, fun e => ?_, fun e => ?_, fun e => ?_, fun e => ?_⟩
      · rw [e, d2] at a1; have := congrArg (·.1) a1; simp at this
      · rw [e, d3] at a1; have := congrArg (·.1) a1; simp at this
      · rw [e, d3] at a2; have := congrArg (·.1) a2; simp at this
      · rw [e, d1] at a1; have := congrArg (·.2.1) a1; simp at this; omega
      · rw [e, d2] at a2; have := congrArg (·.2.1) a2; simp at this; omega
      · rw [e, d3] at a3; have := congrArg (·.2.1) a3; simp at this; omega
    have hlt : ∀ i ∈ L0 ++ W, (i : Int) < C.a := fun i hi => by have := b5.lt hi; omega
    have hnd := b5.nodup
    have hcnot : f0 (colI C c) = 0 → ¬ c ∈ L0 ++ W := fun e hm => by
      rcases List.mem_append.1 hm with hm | hm
      · exact hnw c hm e
      · have := (b7 c hm).1; omega
    have chainOf : ∀ g : Nat → Int, g 0 = s.f 0 → (∀ i ∈ L0 ++ W, g (cdrI C i) = s.f (cdrI C i)) → ChainL (nxF C.b C.c C.d g) C.a.toNat (g 0) (L0 ++ W) := fun g e0 e1 => by
      rw [e0]
      refine b5.congr (fun i hi => ?_)
      rw [nxF_cdr hC _ (hlt i hi), nxF_cdr hC _ (hlt i hi)]
      exact (e1 i hi).symm
    have z0 : (spotF C.b C.c C.d ((0 : Nat) : Int)).1 < 4 := by rw [sp_once _ _ _ (by omega)]; decide
    -- the line's end: on to the next cell
    have next : ∀ (g : Nat → Int) (W' : List Nat) (tl' : Int) (s' : Dy), s'.f = g → (∀ k : Nat, (spotF C.b C.c C.d k).1 < 4 → g k = f0 k) →
        (∀ i : Nat, (i : Int) < C.a → g (carI C i) = if f0 (colI C i) = 0 ∧ i < c + 1 then 0 else f0 (carI C i)) →
        (∀ i : Nat, (i : Int) < C.a → g (colI C i) = if f0 (colI C i) = 2 ∧ i < c + 1 then 0 else f0 (colI C i)) →
        (∀ i : Nat, (i : Int) < C.a → f0 (colI C i) ≠ 0 → L0.getLast? ≠ some i → g (cdrI C i) = f0 (cdrI C i)) →
        ChainL (nxF C.b C.c C.d g) C.a.toNat (g 0) (L0 ++ W') → (∃ t : Nat, tl' = t ∧ (L0 ++ W').getLast? = some t) → (∀ i ∈ W', i < c + 1 ∧ f0 (colI C i) = 0) → (∀ i : Nat, i < c + 1 → f0 (colI C i) = 0 → i ∈ W') → n ≤ 4 * c + 3 →
        SwSt C f0 s'.f L0 cy (n + 1) W' (nextSwept C ⟨xl, xj, c, xm, xa, xp, xfd, tl', xcy⟩) := by
      intro g W' tl' s' hs' q1 q2 q3 q4 q5 q6 q7 q9 q8
      rw [hs']
      unfold nextSwept
      dsimp only
      by_cases hca : (c : Int) + 1 < C.a
      · rw [if_pos hca]
        refine ⟨q1, fun i hi => ?_, fun i hi => ?_, q4, q5, q6, fun i hi => ?_, fun i hi => q9 i (by have hi : (i : Int) < (c : Int) + 1 := hi; omega), .inl ⟨by show (20 : Int) ≤ 20; omega, by show (20 : Int) ≤ 24; omega, by show (0 : Int) ≤ (c : Int) + 1; omega, hca, ecy, ?_, ?_, ?_, ?_⟩⟩
        · rw [q2 i hi]
          by_cases e : f0 (colI C i) = 0 ∧ i < c + 1
          · rw [if_pos e, if_pos ⟨e.1, .inl (by show (i : Int) < (c : Int) + 1; omega)⟩]
          · rw [if_neg e, if_neg]
            rintro ⟨e1, e2 | ⟨_, e2⟩⟩
            · exact e ⟨e1, by have e2 : (i : Int) < (c : Int) + 1 := e2; omega⟩
            · have e2 : (22 : Int) ≤ 20 := e2; omega
        · rw [q3 i hi]
          by_cases e : f0 (colI C i) = 2 ∧ i < c + 1
          · rw [if_pos e, if_pos ⟨e.1, by show (i : Int) < (c : Int) + 1; omega⟩]
          · rw [if_neg e, if_neg]
            rintro ⟨e1, e2⟩
            exact e ⟨e1, by have e2 : (i : Int) < (c : Int) + 1 := e2; omega⟩
        · exact ⟨by show (i : Int) < (c : Int) + 1; have := (q7 i hi).1; omega, (q7 i hi).2⟩
        · show n + 1 ≤ 4 * ((c : Int) + 1).toNat + ((20 : Int).toNat - 20)
          rw [show ((c : Int) + 1).toNat = c + 1 by omega]
          simp; omega
        · intro q; have q : (21 : Int) ≤ 20 := q; omega
        · intro q; have q : (20 : Int) = 23 := q; omega
        · intro q; have q : (20 : Int) = 24 := q; omega
      · rw [if_neg hca]
        refine ⟨q1, fun i hi => ?_, fun i hi => ?_, q4, q5, q6, fun i hi => ?_, fun i hi => q9 i (by have hi : (i : Int) < (c : Int) + 1 := hi; omega), .inr ⟨rfl, by show (c : Int) + 1 = C.a; omega, by show xcy + 1 = cy + 1; omega⟩⟩
        · rw [q2 i hi]
          by_cases e : f0 (colI C i) = 0 ∧ i < c + 1
          · rw [if_pos e, if_pos ⟨e.1, .inl (by show (i : Int) < (c : Int) + 1; omega)⟩]
          · rw [if_neg e, if_neg]
            rintro ⟨e1, e2 | ⟨_, e2⟩⟩
            · exact e ⟨e1, by have e2 : (i : Int) < (c : Int) + 1 := e2; omega⟩
            · have e2 : (22 : Int) ≤ 1 := e2; omega
        · rw [q3 i hi]
          by_cases e : f0 (colI C i) = 2 ∧ i < c + 1
          · rw [if_pos e, if_pos ⟨e.1, by show (i : Int) < (c : Int) + 1; omega⟩]
          · rw [if_neg e, if_neg]
            rintro ⟨e1, e2⟩
            exact e ⟨e1, by have e2 : (i : Int) < (c : Int) + 1 := e2; omega⟩
        · exact ⟨by show (i : Int) < (c : Int) + 1; have := (q7 i hi).1; omega, (q7 i hi).2⟩
    -- nothing turned at all in this cell
    have same2 : ∀ i : Nat, (i : Int) < C.a → f0 (colI C c) ≠ 0 → s.f (carI C i) = if f0 (colI C i) = 0 ∧ i < c + 1 then 0 else f0 (carI C i) := fun i hi hz => by
      rw [b2 i hi]
      by_cases e : f0 (colI C i) = 0 ∧ i < c + 1
      · have hic : i ≠ c := fun q => hz (q ▸ e.1)
        rw [if_pos e, if_pos ⟨e.1, .inl (by omega)⟩]
      · rw [if_neg e, if_neg]
        rintro ⟨e1, e2 | ⟨e2, _⟩⟩
        · exact e ⟨e1, by omega⟩
        · exact e ⟨e1, by omega⟩
    have cyc : cycN C ⟨xl, xj, c, xm, xa, xp, xfd, xtl, xcy⟩ = 0 ∨ cycN C ⟨xl, xj, c, xm, xa, xp, xfd, xtl, xcy⟩ = 3 := by unfold cycN; split <;> simp
    rcases (by omega : xl = 20 ∨ xl = 21 ∨ xl = 22 ∨ xl = 23 ∨ xl = 24) with rfl | rfl | rfl | rfl | rfl
    · have hv : s.f (colI C c) = f0 (colI C c) := by rw [b3 c c1, if_neg (fun q => by omega)]
      have el : ldP C s (partP C.a C.b C.c C.d 2 (c : Int)) = f0 (colI C c) := by
        unfold ldP; rw [z5_in _ (by omega) (by omega), ← hcol.1, Int.toNat_natCast]; exact hv
      by_cases hz : f0 (colI C c) = 0
      · refine ⟨s.act C 1 (partP C.a C.b C.c C.d 2 (c : Int)) 0 0, ⟨21, xj, c, xm, xa, xp, xfd, xtl, xcy⟩, 0, by simp [sweepS, el, hz], ?_, hbound, c0, c1⟩
        rw [hwl, if_neg (by omega)]
        refine ⟨b1, fun i hi => ?_, b3, b4, b5, b6, b7, b8, .inl ⟨by show (20 : Int) ≤ 21; omega, by show (21 : Int) ≤ 24; omega, c0, c1, ecy, by simp at hn ⊢; omega, fun _ _ => by simpa using hz, ?_, ?_⟩⟩
        · rw [b2 i hi]
          have : (22 : Int) ≤ 20 ↔ (22 : Int) ≤ 21 := by omega
          simp only [this]
        · intro q; have q : (21 : Int) = 23 := q; omega
        · intro q; have q : (21 : Int) = 24 := q; omega
      · by_cases hb : f0 (colI C c) = 2
        · refine ⟨s.act C 1 (partP C.a C.b C.c C.d 2 (c : Int)) 0 0, ⟨24, xj, c, xm, xa, xp, xfd, xtl, xcy⟩, 0, by simp [sweepS, el, hb], ?_, hbound, c0, c1⟩
          rw [hwl, if_neg (by omega)]
          refine ⟨b1, fun i hi => ?_, b3, b4, b5, b6, b7, b8, .inl ⟨by show (20 : Int) ≤ 24; omega, by show (24 : Int) ≤ 24; omega, c0, c1, ecy, by simp at hn ⊢; omega, ?_, ?_, fun _ => ⟨by simpa using hb, by simp at hn ⊢; omega⟩⟩⟩
          · rw [b2 i hi]
            by_cases e : f0 (colI C i) = 0 ∧ (i : Int) < (c : Int)
            · rw [if_pos ⟨e.1, .inl e.2⟩, if_pos ⟨e.1, .inl e.2⟩]
            · rw [if_neg (by rintro ⟨e1, e2 | ⟨_, e2⟩⟩; exact e ⟨e1, e2⟩; omega), if_neg]
              rintro ⟨e1, e2 | ⟨e2, _⟩⟩
              · exact e ⟨e1, e2⟩
              · have e2 : (i : Int) = (c : Int) := e2
                have : i = c := by omega
                subst this; omega
          · intro q q2; have q2 : (24 : Int) ≤ 23 := q2; omega
          · intro q; have q : (24 : Int) = 23 := q; omega
        · refine ⟨s.act C 1 (partP C.a C.b C.c C.d 2 (c : Int)) 0 0, nextSwept C ⟨20, xj, c, xm, xa, xp, xfd, xtl, xcy⟩, cycN C ⟨20, xj, c, xm, xa, xp, xfd, xtl, xcy⟩, by simp [sweepS, el, hb, hz], ?_, hbound, c0, c1⟩
          rw [if_neg (by omega)]
          refine next s.f W xtl _ (hwl _) b1 (fun i hi => same2 i hi hz) (fun i hi => ?_) b4 b5 b6 (fun i hi => ⟨by have := (b7 i hi).1; omega, (b7 i hi).2⟩) (fun i hi h0 => b8 i (by have : i ≠ c := fun q => hz (q ▸ h0); omega) h0) (by simp at hn; omega)
          rw [b3 i hi]
          by_cases e : f0 (colI C i) = 2 ∧ i < c + 1
          · have hic : i ≠ c := fun q => hb (q ▸ e.1)
            rw [if_pos e, if_pos ⟨e.1, by omega⟩]
          · rw [if_neg e, if_neg (fun q => e ⟨q.1, by omega⟩)]
    · have hz : f0 (colI C c) = 0 := i1 (by omega) (by omega)
      have hw : (s.act C 2 (partP C.a C.b C.c C.d 0 (c : Int)) 0 0).f = upd s.f (carI C c) 0 := words_store C.n s.f _ 0 (by omega)
      refine ⟨s.act C 2 (partP C.a C.b C.c C.d 0 (c : Int)) 0 0, ⟨22, xj, c, xm, xa, xp, xfd, xtl, xcy⟩, 0, by simp [sweepS], ?_, hbound, c0, c1⟩
      rw [hw, if_neg (by omega)]
      have ecdr : ∀ i : Nat, (i : Int) < C.a → upd s.f (carI C c) 0 (cdrI C i) = s.f (cdrI C i) := fun i hi => by unfold upd; rw [if_neg (fun e => (ne2 c i c1 hi).1 e.symm)]
      refine ⟨fun k hk => ?_, fun i hi => ?_, fun i hi => ?_, fun i hi q1 q2 => ?_, chainOf _ ?_ (fun i hi => ecdr i (hlt i hi)), b6, b7, b8, .inl ⟨by show (20 : Int) ≤ 22; omega, by show (22 : Int) ≤ 24; omega, c0, c1, ecy, by simp at hn ⊢; omega, fun _ _ => by simpa using hz, ?_, ?_⟩⟩
      · unfold upd; rw [if_neg (fun e => (ne1 c c1 k hk).1 e.symm)]; exact b1 k hk
      · by_cases e : i = c
        · subst e
          rw [upd_at, if_pos ⟨hz, .inr ⟨rfl, by show (22 : Int) ≤ 22; omega⟩⟩]
        · have : upd s.f (carI C c) 0 (carI C i) = s.f (carI C i) := by unfold upd; rw [if_neg (fun q => e ((ne2 i c hi c1).2.2.2.1 q))]
          rw [this, b2 i hi]
          by_cases e2 : f0 (colI C i) = 0 ∧ (i : Int) < (c : Int)
          · rw [if_pos ⟨e2.1, .inl e2.2⟩, if_pos ⟨e2.1, .inl e2.2⟩]
          · rw [if_neg (by rintro ⟨e1, e3 | ⟨_, e3⟩⟩; exact e2 ⟨e1, e3⟩; omega), if_neg]
            rintro ⟨e1, e3 | ⟨e3, _⟩⟩
            · exact e2 ⟨e1, e3⟩
            · have e3 : (i : Int) = (c : Int) := e3
              exact e (by omega)
      · have : upd s.f (carI C c) 0 (colI C i) = s.f (colI C i) := by unfold upd; rw [if_neg (fun q => (ne2 c i c1 hi).2.1 q.symm)]
        rw [this]; exact b3 i hi
      · rw [ecdr i hi]; exact b4 i hi q1 q2
      · unfold upd; rw [if_neg (fun e => (ne1 c c1 0 z0).1 e.symm)]
      · intro q; have q : (22 : Int) = 23 := q; omega
      · intro q; have q : (22 : Int) = 24 := q; omega
    · have hz : f0 (colI C c) = 0 := i1 (by omega) (by omega)
      have hw : (s.act C 2 (partP C.a C.b C.c C.d 1 (c : Int)) 0 0).f = upd s.f (cdrI C c) 0 := words_store C.n s.f _ 0 (by omega)
      refine ⟨s.act C 2 (partP C.a C.b C.c C.d 1 (c : Int)) 0 0, ⟨23, xj, c, xm, xa, xp, xfd, xtl, xcy⟩, 0, by simp [sweepS], ?_, hbound, c0, c1⟩
      rw [hw, if_neg (by omega)]
      have ecdr : ∀ i : Nat, (i : Int) < C.a → i ≠ c → upd s.f (cdrI C c) 0 (cdrI C i) = s.f (cdrI C i) := fun i hi e => by unfold upd; rw [if_neg (fun q => e ((ne2 i c hi c1).2.2.2.2.1 q))]
      refine ⟨fun k hk => ?_, fun i hi => ?_, fun i hi => ?_, fun i hi q1 q2 => ?_, chainOf _ ?_ (fun i hi => ecdr i (hlt i hi) (fun e => hcnot hz (e ▸ hi))), b6, b7, b8, .inl ⟨by show (20 : Int) ≤ 23; omega, by show (23 : Int) ≤ 24; omega, c0, c1, ecy, by simp at hn ⊢; omega, fun _ _ => by simpa using hz, fun _ => by show upd s.f (cdrI C c) 0 (cdrI C (c : Int).toNat) = 0; rw [Int.toNat_natCast]; exact upd_at _ _ _, ?_⟩⟩
      · unfold upd; rw [if_neg (fun e => (ne1 c c1 k hk).2.1 e.symm)]; exact b1 k hk
      · have : upd s.f (cdrI C c) 0 (carI C i) = s.f (carI C i) := by unfold upd; rw [if_neg (fun q => (ne2 i c hi c1).1 q)]
        rw [this, b2 i hi]
        have e22 : (22 : Int) ≤ 22 ↔ (22 : Int) ≤ 23 := by omega
        simp only [e22]
      · have : upd s.f (cdrI C c) 0 (colI C i) = s.f (colI C i) := by unfold upd; rw [if_neg (fun q => (ne2 c i c1 hi).2.2.1 q.symm)]
        rw [this]; exact b3 i hi
      · rw [ecdr i hi (fun e => q1 (e ▸ hz))]; exact b4 i hi q1 q2
      · unfold upd; rw [if_neg (fun e => (ne1 c c1 0 z0).2.1 e.symm)]
      · intro q; have q : (23 : Int) = 24 := q; omega
    · have hz : f0 (colI C c) = 0 := i1 (by omega) (by omega)
      have hc0' : s.f (cdrI C c) = 0 := by have := i3 rfl; simpa using this
      obtain ⟨t, htl, hlast⟩ := b6
      obtain ⟨hLn, hLt⟩ := getLast_of hlast
      have htm : t ∈ L0 ++ W := by rw [← hLt]; exact List.getLast_mem _
      have hta := hlt t htm
      have hcw : cellW (c : Int) = 2 * (c : Int) + 1 := by unfold cellW; rw [if_pos (by omega)]
      subst htl
      have hct := cdrI_sp hC (i := t) hta
      have hw : (s.act C 2 (partP C.a C.b C.c C.d 1 (t : Int)) (cellW (c : Int)) 0).f = upd s.f (cdrI C t) (2 * (c : Int) + 1) := by
        rw [hcw]; exact words_store C.n s.f _ _ (by omega)
      have htc : t ≠ c := fun e => hcnot hz (e ▸ htm)
      have ecdr : ∀ i : Nat, (i : Int) < C.a → i ≠ t → upd s.f (cdrI C t) (2 * (c : Int) + 1) (cdrI C i) = s.f (cdrI C i) := fun i hi e => by unfold upd; rw [if_neg (fun q => e ((ne2 i t hi hta).2.2.2.2.1 q))]
      refine ⟨s.act C 2 (partP C.a C.b C.c C.d 1 (t : Int)) (cellW (c : Int)) 0, nextSwept C ⟨23, xj, c, xm, xa, xp, xfd, c, xcy⟩, 2 + cycN C ⟨23, xj, c, xm, xa, xp, xfd, t, xcy⟩, by simp [sweepS, cycN, nextSwept], ?_, hbound, c0, c1⟩
      rw [if_pos (by omega)]
      refine next _ (W ++ [c]) c _ hw (fun k hk => ?_) (fun i hi => ?_) (fun i hi => ?_) (fun i hi q1 q2 => ?_) ?_ ⟨c, rfl, by rw [← List.append_assoc]; simp⟩ (fun i hi => ?_) (fun i hi h0 => by
        by_cases e : i = c
        · subst e; simp
        · exact List.mem_append.2 (.inl (b8 i (by omega) h0))) (by simp at hn; omega)
      · unfold upd; rw [if_neg (fun e => (ne1 t hta k hk).2.1 e.symm)]; exact b1 k hk
      · have : upd s.f (cdrI C t) (2 * (c : Int) + 1) (carI C i) = s.f (carI C i) := by unfold upd; rw [if_neg (fun q => (ne2 i t hi hta).1 q)]
        rw [this, b2 i hi]
        by_cases e : f0 (colI C i) = 0 ∧ i < c + 1
        · rw [if_pos e, if_pos ⟨e.1, by omega⟩]
        · rw [if_neg e, if_neg]
          rintro ⟨e1, e2⟩
          exact e ⟨e1, by omega⟩
      · have : upd s.f (cdrI C t) (2 * (c : Int) + 1) (colI C i) = s.f (colI C i) := by unfold upd; rw [if_neg (fun q => (ne2 t i hta hi).2.2.1 q.symm)]
        rw [this, b3 i hi]
        by_cases e : f0 (colI C i) = 2 ∧ i < c + 1
        · have hic : i ≠ c := fun q => by rw [q] at e; omega
          rw [if_pos e, if_pos ⟨e.1, by omega⟩]
        · rw [if_neg e, if_neg (fun q => e ⟨q.1, by omega⟩)]
      · by_cases e : i = t
        · subst e
          exfalso
          rcases List.mem_append.1 htm with hm | hm
          · by_cases hW : W = []
            · rw [hW, List.append_nil] at hlast; exact q2 hlast
            · have hl2 : (L0 ++ W).getLast? = W.getLast? := by
                rw [List.getLast?_append]
                cases hq : W.getLast? with
                | none => exact absurd (List.getLast?_eq_none_iff.1 hq) hW
                | some v => rfl
              rw [hl2] at hlast
              obtain ⟨hWn, hWl⟩ := getLast_of hlast
              exact q1 (b7 i (hWl ▸ List.getLast_mem hWn)).2
          · exact q1 (b7 i hm).2
        · rw [ecdr i hi e]; exact b4 i hi q1 q2
      · have e0 : upd s.f (cdrI C t) (2 * (c : Int) + 1) 0 = s.f 0 := by unfold upd; rw [if_neg (fun e => (ne1 t hta 0 z0).2.1 e.symm)]
        rw [e0, ← List.append_assoc]
        refine ChainL.more (nx := nxF C.b C.c C.d s.f) (by omega) ?_ hLn b5 (fun i hi hne => ?_) ?_ hnd
        · rw [nxF_cdr hC _ c1, ecdr c c1 htc.symm]; exact hc0'
        · rw [hLt] at hne
          rw [nxF_cdr hC _ (hlt i hi), nxF_cdr hC _ (hlt i hi)]
          exact ecdr i (hlt i hi) hne
        · rw [hLt, nxF_cdr hC _ hta, upd_at]
      · rcases List.mem_append.1 hi with hi | hi
        · exact ⟨by have := (b7 i hi).1; omega, (b7 i hi).2⟩
        · have e : i = c := by simpa using hi
          subst e; exact ⟨by omega, hz⟩
    · obtain ⟨hb, hn1⟩ := i4 rfl
      have hw : (s.act C 2 (partP C.a C.b C.c C.d 2 (c : Int)) 0 0).f = upd s.f (colI C c) 0 := words_store C.n s.f _ 0 (by omega)
      refine ⟨s.act C 2 (partP C.a C.b C.c C.d 2 (c : Int)) 0 0, nextSwept C ⟨24, xj, c, xm, xa, xp, xfd, xtl, xcy⟩, cycN C ⟨24, xj, c, xm, xa, xp, xfd, xtl, xcy⟩, by simp [sweepS], ?_, hbound, c0, c1⟩
      rw [if_neg (by omega)]
      have ecdr : ∀ i : Nat, (i : Int) < C.a → upd s.f (colI C c) 0 (cdrI C i) = s.f (cdrI C i) := fun i hi => by unfold upd; rw [if_neg (fun q => (ne2 i c hi c1).2.2.1 q)]
      refine next _ W xtl _ hw (fun k hk => ?_) (fun i hi => ?_) (fun i hi => ?_) (fun i hi q1 q2 => ?_) (chainOf _ ?_ (fun i hi => ecdr i (hlt i hi))) b6 (fun i hi => ⟨by have := (b7 i hi).1; omega, (b7 i hi).2⟩) (fun i hi h0 => b8 i (by have hq : i ≠ c := (fun q => by (rw [q] at h0; omega)); omega) h0) (by omega)
      · unfold upd; rw [if_neg (fun e => (ne1 c c1 k hk).2.2 e.symm)]; exact b1 k hk
      · have : upd s.f (colI C c) 0 (carI C i) = s.f (carI C i) := by unfold upd; rw [if_neg (fun q => (ne2 i c hi c1).2.1 q)]
        rw [this]; exact same2 i hi (by omega)
      · by_cases e : i = c
        · subst e
          rw [upd_at, if_pos ⟨hb, by omega⟩]
        · have : upd s.f (colI C c) 0 (colI C i) = s.f (colI C i) := by unfold upd; rw [if_neg (fun q => e ((ne2 i c hi c1).2.2.2.2.2 q))]
          rw [this, b3 i hi]
          by_cases e2 : f0 (colI C i) = 2 ∧ i < c + 1
          · rw [if_pos e2, if_pos ⟨e2.1, by omega⟩]
          · rw [if_neg e2, if_neg (fun q => e2 ⟨q.1, by omega⟩)]
      · rw [ecdr i hi]; exact b4 i hi q1 q2
      · unfold upd; rw [if_neg (fun e => (ne1 c c1 0 z0).2.2 e.symm)]
  · omega
end Go.Proofs.YthdcapkchjamoaaDoor
