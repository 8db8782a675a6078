/- The law IdealApart's first part: numbers that are out of what is looked at; stores beside an act. -/
import Derived.Test.YthlpmkjhiifibaaDoorIdealFull
namespace Go.Proofs.YthlpmkjhiifibaaDoor
open Go Go.RowKit
set_option maxRecDepth 100000
attribute [local go_sem ↓] Go.wp_at_zero Go.wp_at_succ

theorem set_n (b c d : Nat) (s : St) (m x y z : Int) (f : Bool) : (doS b c d s m 1 x y z f).n = s.n := by
  unfold doS
  split
  · simp [nxtK]
  · rfl
/-- Stores, and an act in a block of the law's own. -/
structure Kept (w W : World) (b c d : Nat) (l : List Ref) (A : Nat) (q : ActN) : Prop where
  st : Stores w W b c d l
  act : ActAt W A 0 q
  na : ∀ p ∈ l, ¬ p.foot A
namespace Kept
variable {w W W' : World} {b c d : Nat} {l : List Ref} {p o : Ref} {A : Nat} {q : ActN} {s' : St} {r : Int} {e : Ending}
theorem lt (h : Kept w W b c d l A q) : A < W.heap.size := lt_of_cell h.act.1
theorem on (h : Kept w W b c d l A q) (hb : Below W.heap.size W W') : Kept w W' b c d l A q := ⟨h.st.on hb, h.act.other (hb.block A h.lt), h.na⟩
theorem swap (h : Kept w W b c d (p :: o :: l) A q) : Kept w W b c d (o :: p :: l) A q := ⟨h.st.swap, h.act, fun x hx => h.na x (by simp at hx ⊢; rcases hx with e | e | e <;> simp [e])⟩
theorem does (h : Kept w W b c d (p :: l) A q) (hp : DoPost W p.X p.R p.L p.v b c d s' r e W') : e = .returned (.int .i64 r) ∧ ∃ v', Kept w W' b c d (⟨p.X, p.R, p.L, v', s'⟩ :: l) A q := by
  have hp' := hp
  obtain ⟨v', he, hs', ho, hs⟩ := hp
  have hal := h.lt
  have hna : ¬ p.foot A := h.na p (by simp)
  have hsz := h.st.old.size
  have hap := List.pairwise_cons.1 h.st.ap
  refine ⟨he, v', ⟨h.st.old.trans (hs.below h.st.old.size (fun k hk hf => by have := h.st.up p (by simp) k hf; omega)), ?_, ?_, List.pairwise_cons.2 ⟨?_, hap.2⟩⟩, h.act.other (hs.block A hal hna), ?_⟩
  · intro x hx
    rcases List.mem_cons.1 hx with rfl | hx
    · exact hs'
    · exact (h.st.st x (List.mem_cons_of_mem _ hx)).sav hs (fun k hk hf => hap.1 x hx k hf hk)
  · intro x hx k hk
    rcases List.mem_cons.1 hx with rfl | hx
    · rcases hk with e | e | e | e
      · exact h.st.up p (by simp) k (.inl e)
      · exact h.st.up p (by simp) k (.inr (.inl e))
      · exact h.st.up p (by simp) k (.inr (.inr (.inl e)))
      · rcases ho k e with e | e
        · exact h.st.up p (by simp) k (.inr (.inr (.inr e)))
        · omega
    · exact h.st.up x (List.mem_cons_of_mem _ hx) k hk
  · intro x hx k hk hn
    rcases hk with e | e | e | e
    · exact hap.1 x hx k (.inl e) hn
    · exact hap.1 x hx k (.inr (.inl e)) hn
    · exact hap.1 x hx k (.inr (.inr (.inl e))) hn
    · rcases ho k e with e | e
      · exact hap.1 x hx k (.inr (.inr (.inr e))) hn
      · have := (h.st.st x (List.mem_cons_of_mem _ hx)).lt k hn; omega
  · intro x hx
    rcases List.mem_cons.1 hx with rfl | hx
    · rintro (e | e | e | e)
      · exact hna (.inl e)
      · exact hna (.inr (.inl e))
      · exact hna (.inr (.inr (.inl e)))
      · rcases ho A e with e | e
        · exact hna (.inr (.inr (.inr e)))
        · omega
    · exact h.na x (List.mem_cons_of_mem _ hx)
theorem copy {s : St} (h : Kept w W b c d l A q) (hp : CopyPost W b c d s e W') : ∃ p : Ref, e = .returned (.pointer (some ⟨p.X, 0, none⟩)) ∧ p.s = s ∧ Kept w W' b c d (p :: l) A q := by
  obtain ⟨X, R, L, v, he, hs', hup, hb⟩ := hp
  have hal := h.lt
  have hsz := h.st.old.size
  refine ⟨⟨X, R, L, v, s⟩, he, rfl, ⟨belowOn h.st.old hb, ?_, ?_, List.pairwise_cons.2 ⟨?_, h.st.ap⟩⟩, h.act.other (hb.block A hal), ?_⟩
  · intro x hx
    rcases List.mem_cons.1 hx with rfl | hx
    · exact hs'
    · exact (h.st.st x hx).below hb
  · intro x hx k hk
    rcases List.mem_cons.1 hx with rfl | hx
    · have := hup k hk; omega
    · exact h.st.up x hx k hk
  · intro x hx k hk hn
    have := hup k hk
    have := (h.st.st x hx).lt k hn; omega
  · intro x hx
    rcases List.mem_cons.1 hx with rfl | hx
    · intro hf; have := hup A hf; omega
    · exact h.na x hx
end Kept
theorem apart_wrong (b c d : Int) (hr : ¬ Right 2 b c d) (a : Option Addr) (n cap : Nat) (w : World) (hS : SpansAt w) (hRw : RowsAt w) : Calls Tryd.prog 4 #[.int .i64 b, .int .i64 c, .int .i64 d, .slice a n cap] w fun e w' => e = .returned (.bool true) ∧ Below w.heap.size w w' := by
  have HN : Hid (∀ W, SpansAt W → _) := Lib.hid (fun W hW => New_no b c d hr W hW)
  clear hr
  have HA := Lib.hid (awake_c w hS hRw)
  have HS := Lib.hid hS
  clear hS hRw
  go_enter Tryd.func4, Tryd.ntmps4
  go_wp2_with fail
  refine HA.out.mono ?_
  rintro e W1 ⟨rfl, hW1⟩
  have HB1 := Lib.hid hW1
  clear hW1 HA
  go_wp2_with fail
  refine (Do_nil 0 11 0 0 0 false _).mono ?_
  rintro e W2 ⟨rfl, hW2⟩
  have HB2 := Lib.hid (belowOn HB1.out hW2)
  clear hW2 HB1
  go_wp2_with fail
  refine (Reg_nil 0 0 _).mono ?_
  rintro e V ⟨rfl, rfl⟩
  go_wp2_with fail
  refine (Glob_nil 0 _).mono ?_
  rintro e V ⟨rfl, rfl⟩
  go_wp2_with fail
  refine (Car_nil 0 _).mono ?_
  rintro e V ⟨rfl, rfl⟩
  go_wp2_with fail
  refine (Cdr_nil 0 _).mono ?_
  rintro e V ⟨rfl, rfl⟩
  go_wp2_with fail
  refine (Len_nil _).mono ?_
  rintro e V ⟨rfl, rfl⟩
  go_wp2_with fail
  refine (Copy_nil _).mono ?_
  rintro e V ⟨rfl, rfl⟩
  go_wp2_with fail
  refine (HN.out _ (HS.out.below HB2.out)).mono ?_
  rintro e W3 ⟨rfl, hW3⟩
  have HB3 := Lib.hid (belowOn HB2.out hW3)
  clear hW3 HB2 HN
  go_wp2_with fail
  go_ret
  exact ⟨rfl, HB3.out⟩
theorem apart_great1 (b c d : Nat) (hr : Right 2 b c d) (a : Option Addr) (n cap : Nat) (h1 : 12 < b) (w : World) (hS : SpansAt w) (hRw : RowsAt w) : Calls Tryd.prog 4 #[.int .i64 b, .int .i64 c, .int .i64 d, .slice a n cap] w fun e w' => e = .returned (.bool true) ∧ Below w.heap.size w w' := by
  have HN : Hid (∀ W, SpansAt W → _) := Lib.hid (fun W hW => New_yes b c d hr W hW)
  clear hr
  have HA := Lib.hid (awake_c w hS hRw)
  have HS := Lib.hid hS
  clear hS hRw
  go_enter Tryd.func4, Tryd.ntmps4
  go_wp2_with fail
  refine HA.out.mono ?_
  rintro e W1 ⟨rfl, hW1⟩
  have HB1 := Lib.hid hW1
  clear hW1 HA
  go_wp2_with fail
  refine (Do_nil 0 11 0 0 0 false _).mono ?_
  rintro e W2 ⟨rfl, hW2⟩
  have HB2 := Lib.hid (belowOn HB1.out hW2)
  clear hW2 HB1
  go_wp2_with fail
  refine (Reg_nil 0 0 _).mono ?_
  rintro e V ⟨rfl, rfl⟩
  go_wp2_with fail
  refine (Glob_nil 0 _).mono ?_
  rintro e V ⟨rfl, rfl⟩
  go_wp2_with fail
  refine (Car_nil 0 _).mono ?_
  rintro e V ⟨rfl, rfl⟩
  go_wp2_with fail
  refine (Cdr_nil 0 _).mono ?_
  rintro e V ⟨rfl, rfl⟩
  go_wp2_with fail
  refine (Len_nil _).mono ?_
  rintro e V ⟨rfl, rfl⟩
  go_wp2_with fail
  refine (Copy_nil _).mono ?_
  rintro e V ⟨rfl, rfl⟩
  go_wp2_with fail
  refine (HN.out _ (HS.out.below HB2.out)).mono ?_
  rintro e W3 ⟨X, R, L, rfl, _, _, _, _, hW3⟩
  have HB3 := Lib.hid (belowOn HB2.out hW3)
  clear hW3 HB2 HN
  go_wp2_with fail
  go_ret
  exact ⟨rfl, HB3.out⟩
theorem apart_great2 (b c d : Nat) (hr : Right 2 b c d) (a : Option Addr) (n cap : Nat) (h1 : ¬ 12 < b) (h2 : 8 < c) (w : World) (hS : SpansAt w) (hRw : RowsAt w) : Calls Tryd.prog 4 #[.int .i64 b, .int .i64 c, .int .i64 d, .slice a n cap] w fun e w' => e = .returned (.bool true) ∧ Below w.heap.size w w' := by
  have HN : Hid (∀ W, SpansAt W → _) := Lib.hid (fun W hW => New_yes b c d hr W hW)
  clear hr
  have HA := Lib.hid (awake_c w hS hRw)
  have HS := Lib.hid hS
  clear hS hRw
  go_enter Tryd.func4, Tryd.ntmps4
  go_wp2_with fail
  refine HA.out.mono ?_
  rintro e W1 ⟨rfl, hW1⟩
  have HB1 := Lib.hid hW1
  clear hW1 HA
  go_wp2_with fail
  refine (Do_nil 0 11 0 0 0 false _).mono ?_
  rintro e W2 ⟨rfl, hW2⟩
  have HB2 := Lib.hid (belowOn HB1.out hW2)
  clear hW2 HB1
  go_wp2_with fail
  refine (Reg_nil 0 0 _).mono ?_
  rintro e V ⟨rfl, rfl⟩
  go_wp2_with fail
  refine (Glob_nil 0 _).mono ?_
  rintro e V ⟨rfl, rfl⟩
  go_wp2_with fail
  refine (Car_nil 0 _).mono ?_
  rintro e V ⟨rfl, rfl⟩
  go_wp2_with fail
  refine (Cdr_nil 0 _).mono ?_
  rintro e V ⟨rfl, rfl⟩
  go_wp2_with fail
  refine (Len_nil _).mono ?_
  rintro e V ⟨rfl, rfl⟩
  go_wp2_with fail
  refine (Copy_nil _).mono ?_
  rintro e V ⟨rfl, rfl⟩
  go_wp2_with fail
  refine (HN.out _ (HS.out.below HB2.out)).mono ?_
  rintro e W3 ⟨X, R, L, rfl, _, _, _, _, hW3⟩
  have HB3 := Lib.hid (belowOn HB2.out hW3)
  clear hW3 HB2 HN
  go_wp2_with fail
  go_ret
  exact ⟨rfl, HB3.out⟩
theorem apart_great3 (b c d : Nat) (hr : Right 2 b c d) (a : Option Addr) (n cap : Nat) (h1 : ¬ 12 < b) (h2 : ¬ 8 < c) (h3 : 8 < d) (w : World) (hS : SpansAt w) (hRw : RowsAt w) : Calls Tryd.prog 4 #[.int .i64 b, .int .i64 c, .int .i64 d, .slice a n cap] w fun e w' => e = .returned (.bool true) ∧ Below w.heap.size w w' := by
  have HN : Hid (∀ W, SpansAt W → _) := Lib.hid (fun W hW => New_yes b c d hr W hW)
  clear hr
  have HA := Lib.hid (awake_c w hS hRw)
  have HS := Lib.hid hS
  clear hS hRw
  go_enter Tryd.func4, Tryd.ntmps4
  go_wp2_with fail
  refine HA.out.mono ?_
  rintro e W1 ⟨rfl, hW1⟩
  have HB1 := Lib.hid hW1
  clear hW1 HA
  go_wp2_with fail
  refine (Do_nil 0 11 0 0 0 false _).mono ?_
  rintro e W2 ⟨rfl, hW2⟩
  have HB2 := Lib.hid (belowOn HB1.out hW2)
  clear hW2 HB1
  go_wp2_with fail
  refine (Reg_nil 0 0 _).mono ?_
  rintro e V ⟨rfl, rfl⟩
  go_wp2_with fail
  refine (Glob_nil 0 _).mono ?_
  rintro e V ⟨rfl, rfl⟩
  go_wp2_with fail
  refine (Car_nil 0 _).mono ?_
  rintro e V ⟨rfl, rfl⟩
  go_wp2_with fail
  refine (Cdr_nil 0 _).mono ?_
  rintro e V ⟨rfl, rfl⟩
  go_wp2_with fail
  refine (Len_nil _).mono ?_
  rintro e V ⟨rfl, rfl⟩
  go_wp2_with fail
  refine (Copy_nil _).mono ?_
  rintro e V ⟨rfl, rfl⟩
  go_wp2_with fail
  refine (HN.out _ (HS.out.below HB2.out)).mono ?_
  rintro e W3 ⟨X, R, L, rfl, _, _, _, _, hW3⟩
  have HB3 := Lib.hid (belowOn HB2.out hW3)
  clear hW3 HB2 HN
  go_wp2_with fail
  go_ret
  exact ⟨rfl, HB3.out⟩
theorem apart_great4 (b c d : Nat) (hr : Right 2 b c d) (a : Option Addr) (n cap : Nat) (h1 : ¬ 12 < b) (h2 : ¬ 8 < c) (h3 : ¬ 8 < d) (h4 : 60 < n) (_ : n ≤ 9223372036854775807) (w : World) (hS : SpansAt w) (hRw : RowsAt w) : Calls Tryd.prog 4 #[.int .i64 b, .int .i64 c, .int .i64 d, .slice a n cap] w fun e w' => e = .returned (.bool true) ∧ Below w.heap.size w w' := by
  have HN : Hid (∀ W, SpansAt W → _) := Lib.hid (fun W hW => New_yes b c d hr W hW)
  clear hr
  have HA := Lib.hid (awake_c w hS hRw)
  have HS := Lib.hid hS
  clear hS hRw
  go_enter Tryd.func4, Tryd.ntmps4
  go_wp2_with fail
  refine HA.out.mono ?_
  rintro e W1 ⟨rfl, hW1⟩
  have HB1 := Lib.hid hW1
  clear hW1 HA
  go_wp2_with fail
  refine (Do_nil 0 11 0 0 0 false _).mono ?_
  rintro e W2 ⟨rfl, hW2⟩
  have HB2 := Lib.hid (belowOn HB1.out hW2)
  clear hW2 HB1
  go_wp2_with fail
  refine (Reg_nil 0 0 _).mono ?_
  rintro e V ⟨rfl, rfl⟩
  go_wp2_with fail
  refine (Glob_nil 0 _).mono ?_
  rintro e V ⟨rfl, rfl⟩
  go_wp2_with fail
  refine (Car_nil 0 _).mono ?_
  rintro e V ⟨rfl, rfl⟩
  go_wp2_with fail
  refine (Cdr_nil 0 _).mono ?_
  rintro e V ⟨rfl, rfl⟩
  go_wp2_with fail
  refine (Len_nil _).mono ?_
  rintro e V ⟨rfl, rfl⟩
  go_wp2_with fail
  refine (Copy_nil _).mono ?_
  rintro e V ⟨rfl, rfl⟩
  go_wp2_with fail
  refine (HN.out _ (HS.out.below HB2.out)).mono ?_
  rintro e W3 ⟨X, R, L, rfl, _, _, _, _, hW3⟩
  have HB3 := Lib.hid (belowOn HB2.out hW3)
  clear hW3 HB2 HN
  go_wp2_with fail
  go_ret
  exact ⟨rfl, HB3.out⟩
end Go.Proofs.YthlpmkjhiifibaaDoor
