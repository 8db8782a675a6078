/-
  NARROWER THAN 'FOR EVERY INPUT', by the rows' own cells (each row's printed sentence says how): LispHolds: laid · LispAlone: laid · LispTouches: laid.
  DERIVED. THE GIVEN ROWS OF THIS SEAT. 3 by the template 'for every input the law returns true; each argument reads behind the call as it read before'; 0 by the template 'total and deterministic' (their statements: YtbpkdihonemogaaGreatDoorTotals.lean).
  GIVEN WITH THE SEED: the statements are not yours to turn. If you find one false, say at which input.
  Laid BY PROGRAM, IN A SANDBOX (cutbox-rows.mjs): the forced cells as the released guide's own fill.sh prints them over the translation 8164278e281f1d82… (all of the seat's roots in one cut). By AI agents, Wed Nov 11 2026. No macro, syntax, notation, axiom, sorry.
-/
import Derived.Test.YtbpkdihonemogaaGreatDoorChecked
import GoSem.Claim
import GoSem.ClaimJoined
import GoSem.ClaimMapViews
import Derived.JoinedTies
import Derived.KernelRfl
namespace Go.Proofs.YtbpkdihonemogaaGreatDoor
/- THE CELL 'sum', in the pinned program and in every row, IS THE sha256 OF THE DUMP (.gsa) THAT YtbpkdihonemogaaGreatDoorProg.lean LOADS. Nothing in Lean hashes anything: it is a label: what it is worth is what the hold of that sum in a sandbox is worth. -/
noncomputable def Tryz.pinned : Pinned := { name := "ytbpkdihonemogaagreatdoor", sum := "8164278e281f1d82dfe2ecf2fabbffc7b1d7f15d5b98fdb9a4734d05000d4d77", checked := Tryz.checked }
namespace Rows
def none {H : Type} : Left H := { results := [], args := [] }

/- WHAT THE LISTED PACKAGE-LEVEL VARIABLES READ AS WHEN THE CALL BEGINS. Each datum BY PROGRAM (the guide's laid-datum.mjs) off the statement by which the dump's own 'gosem.cut.vars' lays the variable. In a bare row this is a premise. The card (YtbpkdihonemogaaGreatDoorCards.lean) ties it to the program's text. -/
def laid_mudlark_config_spans {H : Type} : DataW H := .agg [.agg [.lit (.string [99, 101, 108, 108, 115]), .lit (.int .i64 2), .lit (.int .i64 4096)], .agg [.lit (.string [109, 117, 116, 115]), .lit (.int .i64 1), .lit (.int .i64 63)], .agg [.lit (.string [114, 101, 103, 115]), .lit (.int .i64 1), .lit (.int .i64 64)], .agg [.lit (.string [103, 108, 111, 98, 115]), .lit (.int .i64 0), .lit (.int .i64 64)]]
def laid_mudlark_op_rows {H : Type} : DataW H := .agg [.agg [.lit (.string []), .lit (.string [])], .agg [.lit (.string [115, 101, 116]), .lit (.string [114, 107])], .agg [.lit (.string [109, 111, 118, 101]), .lit (.string [114, 114])], .agg [.lit (.string [99, 111, 110, 115]), .lit (.string [114, 114, 114])], .agg [.lit (.string [99, 97, 114]), .lit (.string [114, 114])], .agg [.lit (.string [99, 100, 114]), .lit (.string [114, 114])], .agg [.lit (.string [114, 112, 108, 97, 99, 97]), .lit (.string [114, 114])], .agg [.lit (.string [114, 112, 108, 97, 99, 100]), .lit (.string [114, 114])], .agg [.lit (.string [103, 101, 116]), .lit (.string [114, 103])], .agg [.lit (.string [112, 117, 116]), .lit (.string [103, 114])], .agg [.lit (.string [101, 113]), .lit (.string [114, 114])], .agg [.lit (.string [97, 116, 111, 109]), .lit (.string [114])]]

/-- 'mudlarklaw14.LispHolds': WHATEVER THE INPUT: true; the input reads as it did. -/
def lispHoldsSpec : ChangeSpec := { name := "lispHolds", fn := fun _ => fun
  | [d] => { results := [.lit (.bool true)], args := [d] }
  | _ => none }
def lispHoldsRow : OpenClaim := { program := "ytbpkdihonemogaagreatdoor", sum := "8164278e281f1d82dfe2ecf2fabbffc7b1d7f15d5b98fdb9a4734d05000d4d77", func := "mudlark/mudlarklaw14.LispHolds", spec := "lispHolds", inPlace := ["sync/atomic.StoreUint64", "sync/atomic.LoadUint64", "sync/atomic.CompareAndSwapUint64", "sync/atomic.AddUint64"], unfollowed := true, recurses := true, named := ["mudlark/config.spans"], apart := false, laid := [("mudlark/config.spans", laid_mudlark_config_spans)] }
def LispHoldsSaid : Prop := lispHoldsRow.holds Tryz.pinned (OpenSpec.ofChange lispHoldsSpec)

/-- ITS FALSE NEIGHBOUR: 'it returns false'. Refute it at one input. -/
def lispHoldsWrong : ChangeSpec := { name := "lispHolds", fn := fun _ => fun
  | [d] => { results := [.lit (.bool false)], args := [d] }
  | _ => none }
def LispHoldsWrongFalsely : Prop := lispHoldsRow.holds Tryz.pinned (OpenSpec.ofChange lispHoldsWrong)

/-- 'mudlarklaw14.LispAlone': WHATEVER THE INPUT: true; the input reads as it did. -/
def lispAloneSpec : ChangeSpec := { name := "lispAlone", fn := fun _ => fun
  | [d1, d2, d3] => { results := [.lit (.bool true)], args := [d1, d2, d3] }
  | _ => none }
def lispAloneRow : OpenClaim := { program := "ytbpkdihonemogaagreatdoor", sum := "8164278e281f1d82dfe2ecf2fabbffc7b1d7f15d5b98fdb9a4734d05000d4d77", func := "mudlark/mudlarklaw14.LispAlone", spec := "lispAlone", inPlace := ["sync/atomic.StoreUint64", "sync/atomic.LoadUint64", "sync/atomic.CompareAndSwapUint64", "sync/atomic.AddUint64"], unfollowed := true, recurses := true, named := ["mudlark/config.spans", "mudlark/op.rows"], apart := false, laid := [("mudlark/config.spans", laid_mudlark_config_spans), ("mudlark/op.rows", laid_mudlark_op_rows)] }
def LispAloneSaid : Prop := lispAloneRow.holds Tryz.pinned (OpenSpec.ofChange lispAloneSpec)

/-- ITS FALSE NEIGHBOUR: 'it returns false'. Refute it at one input. -/
def lispAloneWrong : ChangeSpec := { name := "lispAlone", fn := fun _ => fun
  | [d1, d2, d3] => { results := [.lit (.bool false)], args := [d1, d2, d3] }
  | _ => none }
def LispAloneWrongFalsely : Prop := lispAloneRow.holds Tryz.pinned (OpenSpec.ofChange lispAloneWrong)

/-- 'mudlarklaw14.LispTouches': WHATEVER THE INPUT: true; the input reads as it did. -/
def lispTouchesSpec : ChangeSpec := { name := "lispTouches", fn := fun _ => fun
  | [d1, d2, d3, d4] => { results := [.lit (.bool true)], args := [d1, d2, d3, d4] }
  | _ => none }
def lispTouchesRow : OpenClaim := { program := "ytbpkdihonemogaagreatdoor", sum := "8164278e281f1d82dfe2ecf2fabbffc7b1d7f15d5b98fdb9a4734d05000d4d77", func := "mudlark/mudlarklaw14.LispTouches", spec := "lispTouches", inPlace := ["sync/atomic.StoreUint64", "sync/atomic.LoadUint64", "sync/atomic.CompareAndSwapUint64", "sync/atomic.AddUint64"], unfollowed := true, recurses := true, named := ["mudlark/config.spans"], apart := false, laid := [("mudlark/config.spans", laid_mudlark_config_spans)] }
def LispTouchesSaid : Prop := lispTouchesRow.holds Tryz.pinned (OpenSpec.ofChange lispTouchesSpec)

/-- ITS FALSE NEIGHBOUR: 'it returns false'. Refute it at one input. -/
def lispTouchesWrong : ChangeSpec := { name := "lispTouches", fn := fun _ => fun
  | [d1, d2, d3, d4] => { results := [.lit (.bool false)], args := [d1, d2, d3, d4] }
  | _ => none }
def LispTouchesWrongFalsely : Prop := lispTouchesRow.holds Tryz.pinned (OpenSpec.ofChange lispTouchesWrong)

/- THE SECOND FORM. 'bulk': how many values and letters a reading holds, each counted each time it is reached (what is shared counts as often as it is met; a slice's spare places count too). A statement '..UptoSaid' is the law's where the arguments, and the package variables that the reading takes, are together of bulk at most 1048576: NARROWER than '..Said'. Prove '..Said' where nothing that the law and all that it calls make is longer than what came in: it says more and counts as full. Else prove '..UptoSaid'. A law counts once. -/
mutual
def uptoBulk {H : Type} : DataW H → Nat
  | .lit (.string bytes) => bytes.length + 1
  | .lit _ => 1
  | .nil => 1
  | .ptr d => uptoBulk d + 1
  | .slice elems spare => uptoBulkAll elems + uptoBulkAll spare + 1
  | .agg parts => uptoBulkAll parts + 1
  | .iface _ d => uptoBulk d + 1
  | .map entries => uptoBulkEntries entries + 1
  | .held _ => 1
def uptoBulkAll {H : Type} : List (DataW H) → Nat
  | [] => 0
  | d :: r => uptoBulk d + uptoBulkAll r
def uptoBulkEntries {H : Type} : List (Lit × DataW H) → Nat
  | [] => 0
  | x :: r => uptoBulkEntry x + uptoBulkEntries r
def uptoBulkEntry {H : Type} : Lit × DataW H → Nat
  | (.string bytes, d) => bytes.length + uptoBulk d + 1
  | (_, d) => uptoBulk d + 1
 end
def uptoSmall : (H : Type) → List (DataW H) → Bool := fun _ ds => decide (uptoBulkAll ds ≤ 1048576)
def OpenSpec.upto (s : _root_.Go.ChangeSpec) : _root_.Go.OpenSpec := { _root_.Go.OpenSpec.ofChange s with cond := some uptoSmall }

/-- 'mudlarklaw14.LispHolds', WHERE WHAT IT READS IS OF BULK AT MOST 1048576: true; the input reads as it did. -/
def lispHoldsUptoRow : OpenClaim := { program := "ytbpkdihonemogaagreatdoor", sum := "8164278e281f1d82dfe2ecf2fabbffc7b1d7f15d5b98fdb9a4734d05000d4d77", func := "mudlark/mudlarklaw14.LispHolds", spec := "lispHolds", inPlace := ["sync/atomic.StoreUint64", "sync/atomic.LoadUint64", "sync/atomic.CompareAndSwapUint64", "sync/atomic.AddUint64"], unfollowed := true, recurses := true, named := ["mudlark/config.spans"], apart := false, laid := [("mudlark/config.spans", laid_mudlark_config_spans)], narrowed := true }
def LispHoldsUptoSaid : Prop := lispHoldsUptoRow.holds Tryz.pinned (OpenSpec.upto lispHoldsSpec)

/-- 'mudlarklaw14.LispAlone', WHERE WHAT IT READS IS OF BULK AT MOST 1048576: true; the input reads as it did. -/
def lispAloneUptoRow : OpenClaim := { program := "ytbpkdihonemogaagreatdoor", sum := "8164278e281f1d82dfe2ecf2fabbffc7b1d7f15d5b98fdb9a4734d05000d4d77", func := "mudlark/mudlarklaw14.LispAlone", spec := "lispAlone", inPlace := ["sync/atomic.StoreUint64", "sync/atomic.LoadUint64", "sync/atomic.CompareAndSwapUint64", "sync/atomic.AddUint64"], unfollowed := true, recurses := true, named := ["mudlark/config.spans", "mudlark/op.rows"], apart := false, laid := [("mudlark/config.spans", laid_mudlark_config_spans), ("mudlark/op.rows", laid_mudlark_op_rows)], narrowed := true }
def LispAloneUptoSaid : Prop := lispAloneUptoRow.holds Tryz.pinned (OpenSpec.upto lispAloneSpec)

/-- 'mudlarklaw14.LispTouches', WHERE WHAT IT READS IS OF BULK AT MOST 1048576: true; the input reads as it did. -/
def lispTouchesUptoRow : OpenClaim := { program := "ytbpkdihonemogaagreatdoor", sum := "8164278e281f1d82dfe2ecf2fabbffc7b1d7f15d5b98fdb9a4734d05000d4d77", func := "mudlark/mudlarklaw14.LispTouches", spec := "lispTouches", inPlace := ["sync/atomic.StoreUint64", "sync/atomic.LoadUint64", "sync/atomic.CompareAndSwapUint64", "sync/atomic.AddUint64"], unfollowed := true, recurses := true, named := ["mudlark/config.spans"], apart := false, laid := [("mudlark/config.spans", laid_mudlark_config_spans)], narrowed := true }
def LispTouchesUptoSaid : Prop := lispTouchesUptoRow.holds Tryz.pinned (OpenSpec.upto lispTouchesSpec)

end Rows
end Go.Proofs.YtbpkdihonemogaaGreatDoor
