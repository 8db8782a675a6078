/- Package op's Regs: the registers of any operation, told one behind the other. -/
import Derived.Test.YthlpmkjhiifibaaDoorOpSeq
namespace Go.Proofs.YthlpmkjhiifibaaDoor
open Go Go.RowKit Go.Shelf
attribute [local go_sem] Oper.semAt_some
set_option maxRecDepth 100000

def regOf (x : Int × Int) : Option Int := if x.1 = 114 then some x.2 else none
/-- An operation's registers. -/
def regsL (k a b c : Int) : List Int := (nums k a b c).filterMap regOf
theorem regs_snoc (pre : List (Int × Int)) (x : Int × Int) : (pre ++ [x]).filterMap regOf = pre.filterMap regOf ++ (regOf x).toList := by
  rw [List.filterMap_append]; cases h : regOf x <;> simp [h]
def enc1 (x : Int) : Array Value := #[Value.int .i64 x]
theorem OwnFrom.up {β : Type} {B B' : Nat} {I : β → World → Prop} (h : OwnFrom B I) (hb : B ≤ B') : OwnFrom B' I := fun s A A' row hs hg hr => h s A A' row hs hg (fun r e => ⟨Nat.le_trans hb (hr r e).1, (hr r e).2⟩)
theorem cells_kept {A A' : World} {row : Option Nat} {B : Nat} {cs : Array Value} {t : TypeId} {fz : Nat × Nat} (h : A.heap[B]? = some (.cells cs t fz)) (hg : A.grownBy A' row) (hr : ∀ r, row = some r → ∃ o : Obj, A.heap[r]? = some o ∧ o.isCells = false) : A'.heap[B]? = some (.cells cs t fz) :=
  (hg.block B (Array.getElem?_eq_some_iff.1 h).1 (fun e => by
    obtain ⟨o, ho, hc⟩ := hr B e.symm
    rw [h] at ho; cases ho; cases hc)).trans h
theorem roomNone {F : Fence} (hd : F.depth = none) (k : Nat) : F.room k := fun d h => by rw [hd] at h; cases h
theorem roundWide {m m' l' : Nat} {P : Program} {l : Nat} {f : FuncId} {tmps : Array Value} {assign body : Code} {w : World} {R : Ending → World → Prop}
    (h : RoundIn Fence.wide m P l f tmps assign body w R) : RoundIn (Fence.wide.inRound l') m' P l f tmps assign body w R := ⟨h.1, fun c cs _ => h.2 c cs (roomNone rfl _)⟩

end Go.Proofs.YthlpmkjhiifibaaDoor
