/- How far a list has been gone along: the cells so far, and the word that they lead to. -/
import Derived.Test.YtgjbabndpmkccaaDoorPopPure
namespace Go.Proofs.YtgjbabndpmkccaaDoor
open Go Go.RowKit

/-- From the word w the cells of L lead, by nx, to the word u. -/
def ReachL (nx : Nat → Int) (a : Nat) : Int → List Nat → Int → Prop
  | w, [], u => w = u
  | w, i :: l, u => w = 2 * (i : Int) + 1 ∧ i < a ∧ ReachL nx a (nx i) l u
theorem ReachL.snoc {nx : Nat → Int} {a : Nat} : ∀ {w u : Int} {L : List Nat} {i : Nat}, ReachL nx a w L u → u = 2 * (i : Int) + 1 → i < a → ReachL nx a w (L ++ [i]) (nx i)
  | _, _, [], _, h, hu, hi => ⟨h.trans hu, hi, rfl⟩
  | _, _, _ :: _, _, h, hu, hi => ⟨h.1, h.2.1, ReachL.snoc h.2.2 hu hi⟩
theorem ReachL.chain {nx : Nat → Int} {a : Nat} : ∀ {w u : Int} {L M : List Nat}, ReachL nx a w L u → ChainL nx a w M → ∃ K, M = L ++ K ∧ ChainL nx a u K
  | w, u, [], M, h, hM => ⟨M, rfl, by rw [← (show w = u from h)]; exact hM⟩
  | w, u, i :: l, [], h, hM => by
    have e1 := h.1
    have e2 : w = 0 := hM
    omega
  | w, u, i :: l, j :: m, h, hM => by
    have e1 := h.1
    have e2 := hM.1
    obtain rfl : i = j := by omega
    obtain ⟨K, e, hK⟩ := ReachL.chain h.2.2 hM.2.2
    exact ⟨K, by rw [e]; rfl, hK⟩
theorem ReachL.ends {nx : Nat → Int} {a : Nat} : ∀ {w : Int} {L : List Nat}, ReachL nx a w L 0 → ChainL nx a w L
  | _, [], h => h
  | _, _ :: _, h => ⟨h.1, h.2.1, ReachL.ends h.2.2⟩
theorem ReachL.lt {nx : Nat → Int} {a : Nat} : ∀ {w u : Int} {L : List Nat} {i : Nat}, ReachL nx a w L u → i ∈ L → i < a
  | _, _, j :: l, i, h, hi => by
    rcases List.mem_cons.1 hi with e | e
    · subst e; exact h.2.1
    · exact ReachL.lt h.2.2 e
/-- It is a list: nil behind at least one cell. -/
theorem ReachL.found {nx : Nat → Int} {a : Nat} {w : Int} {L : List Nat} (h : ReachL nx a w L 0) (hL : L ≠ []) : listF nx a w = some L := listF_some.2 ⟨h.ends, hL⟩
theorem listF_none {nx : Nat → Int} {a : Nat} {w : Int} (h : ∀ M, ChainL nx a w M → M ≠ [] → False) : listF nx a w = none := by
  cases e : listF nx a w with
  | none => rfl
  | some M => obtain ⟨h1, h2⟩ := listF_some.1 e; exact (h M h1 h2).elim
/-- It is none: what comes is neither a cell of the map nor nil behind a cell. -/
theorem ReachL.stuck {nx : Nat → Int} {a : Nat} {w u : Int} {L : List Nat} (h : ReachL nx a w L u) (h1 : ∀ i : Nat, u = 2 * (i : Int) + 1 → ¬ i < a) (h2 : u ≠ 0 ∨ L = []) : listF nx a w = none :=
  listF_none fun M hM hne => by
    obtain ⟨K, e, hK⟩ := h.chain hM
    cases K with
    | nil =>
      have e0 : u = 0 := hK
      rcases h2 with h2 | h2
      · exact h2 e0
      · rw [h2] at e; exact hne e
    | cons j K => exact h1 j hK.1 hK.2.1
/-- It is none: a cell comes twice. -/
theorem ReachL.twice {nx : Nat → Int} {a : Nat} {w u : Int} {L : List Nat} {i : Nat} (h : ReachL nx a w L u) (hu : u = 2 * (i : Int) + 1) (hi : i ∈ L) : listF nx a w = none :=
  listF_none fun M hM _ => by
    obtain ⟨K, e, hK⟩ := h.chain hM
    cases K with
    | nil => have e0 : u = 0 := hK; omega
    | cons j K =>
      have e1 := hK.1
      obtain rfl : i = j := by omega
      have hn := hM.nodup
      rw [e] at hn
      exact (List.nodup_append.1 hn).2.2 i hi i (List.mem_cons_self ..) rfl
/-- It is none: there are more cells than the map has. -/
theorem ReachL.long {nx : Nat → Int} {a : Nat} {w u : Int} {L : List Nat} (h : ReachL nx a w L u) (hl : a < L.length) : listF nx a w = none :=
  listF_none fun M hM _ => by
    obtain ⟨K, e, _⟩ := h.chain hM
    have := hM.length
    rw [e, List.length_append] at this
    omega
/-- How far the program is: the cells so far, unlike, and the place of the word that they lead to. -/
structure Way (f : Nat → Int) (nx : Nat → Int) (a n : Nat) (L : List Nat) (p : Nat) : Prop where
  reach : ReachL nx a (f 0) L (f p)
  nodup : L.Nodup
  lt : p < n
theorem Way.first (f nx : Nat → Int) (a : Nat) {n : Nat} (hn : 0 < n) : Way f nx a n [] 0 := ⟨rfl, List.nodup_nil, hn⟩
theorem Way.next {f nx : Nat → Int} {a n : Nat} {L : List Nat} {p i q : Nat} (h : Way f nx a n L p) (hu : f p = 2 * (i : Int) + 1) (hi : i < a) (hm : ¬ i ∈ L) (hq : q < n) (e : nx i = f q) : Way f nx a n (L ++ [i]) q :=
  ⟨e ▸ h.reach.snoc hu hi, List.nodup_append.2 ⟨h.nodup, List.nodup_cons.2 ⟨by simp, List.nodup_nil⟩, fun x hx y hy e2 => by
    have e3 : y = i := by simpa using hy
    rw [e2, e3] at hx
    exact hm hx⟩, hq⟩
theorem Way.le {f nx : Nat → Int} {a n : Nat} {L : List Nat} {p : Nat} (h : Way f nx a n L p) : L.length ≤ a := nodup_le h.nodup (fun _ hi => h.reach.lt hi)
/-- Where the cdr of a cell lies. -/
def cdrP (b c d : Int) (i : Nat) : Nat := (5 + b + d + b * c + 3 * (i : Int) + 1).toNat
end Go.Proofs.YtgjbabndpmkccaaDoor
