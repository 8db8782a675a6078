/-
  NARROWER THAN 'FOR EVERY INPUT', by the rows' own cells (each row's printed sentence says how): PassSteps: laid · PassGreys: laid · PassMarks: laid · PassQuiet: laid.
  DERIVED. THE GIVEN ROWS OF THIS SEAT. 4 by the template 'for every input the law returns true; each argument reads behind the call as it read before'; 0 by the template 'total and deterministic' (their statements: YtipkkmmehjdmpaaDoorTotals.lean).
  GIVEN WITH THE SEED: the statements are not yours to turn. If you find one false, say at which input.
  Laid BY PROGRAM, IN A SANDBOX (cutbox-rows.mjs): the forced cells as the released guide's own fill.sh prints them over the translation 8e5de288db7b149b… (all of the seat's roots in one cut). By AI agents, Wed Nov 11 2026. No macro, syntax, notation, axiom, sorry.
-/
import Derived.Test.YtipkkmmehjdmpaaDoorChecked
import GoSem.Claim
import GoSem.ClaimJoined
import GoSem.ClaimMapViews
import Derived.JoinedTies
import Derived.KernelRfl
namespace Go.Proofs.YtipkkmmehjdmpaaDoor
/- THE CELL 'sum', in the pinned program and in every row, IS THE sha256 OF THE DUMP (.gsa) THAT YtipkkmmehjdmpaaDoorProg.lean LOADS. Nothing in Lean hashes anything: it is a label: what it is worth is what the hold of that sum in a sandbox is worth. -/
noncomputable def Tryd.pinned : Pinned := { name := "ytipkkmmehjdmpaadoor", sum := "8e5de288db7b149bd3b877e9de8e50f4868423a17a08749ac317f3a34391f297", checked := Tryd.checked }
namespace Rows
def none {H : Type} : Left H := { results := [], args := [] }

/- WHAT THE LISTED PACKAGE-LEVEL VARIABLES READ AS WHEN THE CALL BEGINS. Each datum BY PROGRAM (the guide's laid-datum.mjs) off the statement by which the dump's own 'gosem.cut.vars' lays the variable. In a bare row this is a premise. The card (YtipkkmmehjdmpaaDoorCards.lean) ties it to the program's text. -/
def laid_mudlark_config_spans {H : Type} : DataW H := .agg [.agg [.lit (.string [99, 101, 108, 108, 115]), .lit (.int .i64 2), .lit (.int .i64 4096)], .agg [.lit (.string [109, 117, 116, 115]), .lit (.int .i64 1), .lit (.int .i64 63)], .agg [.lit (.string [114, 101, 103, 115]), .lit (.int .i64 1), .lit (.int .i64 64)], .agg [.lit (.string [103, 108, 111, 98, 115]), .lit (.int .i64 0), .lit (.int .i64 64)]]

/-- 'mudlarklaw16.PassSteps': WHATEVER THE INPUT: true; the input reads as it did. -/
def passStepsSpec : ChangeSpec := { name := "passSteps", fn := fun _ => fun
  | [d1, d2, d3] => { results := [.lit (.bool true)], args := [d1, d2, d3] }
  | _ => none }
def passStepsRow : OpenClaim := { program := "ytipkkmmehjdmpaadoor", sum := "8e5de288db7b149bd3b877e9de8e50f4868423a17a08749ac317f3a34391f297", func := "mudlark/mudlarklaw16.PassSteps", spec := "passSteps", inPlace := ["sync/atomic.StoreUint64", "sync/atomic.LoadUint64", "sync/atomic.CompareAndSwapUint64", "sync/atomic.AddUint64"], named := ["mudlark/config.spans"], apart := false, laid := [("mudlark/config.spans", laid_mudlark_config_spans)] }
def PassStepsSaid : Prop := passStepsRow.holds Tryd.pinned (OpenSpec.ofChange passStepsSpec)

/-- ITS FALSE NEIGHBOUR: 'it returns false'. Refute it at one input. -/
def passStepsWrong : ChangeSpec := { name := "passSteps", fn := fun _ => fun
  | [d1, d2, d3] => { results := [.lit (.bool false)], args := [d1, d2, d3] }
  | _ => none }
def PassStepsWrongFalsely : Prop := passStepsRow.holds Tryd.pinned (OpenSpec.ofChange passStepsWrong)

/-- 'mudlarklaw16.PassGreys': WHATEVER THE INPUT: true; the input reads as it did. -/
def passGreysSpec : ChangeSpec := { name := "passGreys", fn := fun _ => fun
  | [d1, d2] => { results := [.lit (.bool true)], args := [d1, d2] }
  | _ => none }
def passGreysRow : OpenClaim := { program := "ytipkkmmehjdmpaadoor", sum := "8e5de288db7b149bd3b877e9de8e50f4868423a17a08749ac317f3a34391f297", func := "mudlark/mudlarklaw16.PassGreys", spec := "passGreys", inPlace := ["sync/atomic.StoreUint64", "sync/atomic.LoadUint64", "sync/atomic.CompareAndSwapUint64", "sync/atomic.AddUint64"], named := ["mudlark/config.spans"], apart := false, laid := [("mudlark/config.spans", laid_mudlark_config_spans)] }
def PassGreysSaid : Prop := passGreysRow.holds Tryd.pinned (OpenSpec.ofChange passGreysSpec)

/-- ITS FALSE NEIGHBOUR: 'it returns false'. Refute it at one input. -/
def passGreysWrong : ChangeSpec := { name := "passGreys", fn := fun _ => fun
  | [d1, d2] => { results := [.lit (.bool false)], args := [d1, d2] }
  | _ => none }
def PassGreysWrongFalsely : Prop := passGreysRow.holds Tryd.pinned (OpenSpec.ofChange passGreysWrong)

/-- 'mudlarklaw16.PassMarks': WHATEVER THE INPUT: true; the input reads as it did. -/
def passMarksSpec : ChangeSpec := { name := "passMarks", fn := fun _ => fun
  | [d1, d2] => { results := [.lit (.bool true)], args := [d1, d2] }
  | _ => none }
def passMarksRow : OpenClaim := { program := "ytipkkmmehjdmpaadoor", sum := "8e5de288db7b149bd3b877e9de8e50f4868423a17a08749ac317f3a34391f297", func := "mudlark/mudlarklaw16.PassMarks", spec := "passMarks", inPlace := ["sync/atomic.StoreUint64", "sync/atomic.LoadUint64", "sync/atomic.CompareAndSwapUint64", "sync/atomic.AddUint64"], named := ["mudlark/config.spans"], apart := false, laid := [("mudlark/config.spans", laid_mudlark_config_spans)] }
def PassMarksSaid : Prop := passMarksRow.holds Tryd.pinned (OpenSpec.ofChange passMarksSpec)

/-- ITS FALSE NEIGHBOUR: 'it returns false'. Refute it at one input. -/
def passMarksWrong : ChangeSpec := { name := "passMarks", fn := fun _ => fun
  | [d1, d2] => { results := [.lit (.bool false)], args := [d1, d2] }
  | _ => none }
def PassMarksWrongFalsely : Prop := passMarksRow.holds Tryd.pinned (OpenSpec.ofChange passMarksWrong)

/-- 'mudlarklaw16.PassQuiet': WHATEVER THE INPUT: true; the input reads as it did. -/
def passQuietSpec : ChangeSpec := { name := "passQuiet", fn := fun _ => fun
  | [d1, d2] => { results := [.lit (.bool true)], args := [d1, d2] }
  | _ => none }
def passQuietRow : OpenClaim := { program := "ytipkkmmehjdmpaadoor", sum := "8e5de288db7b149bd3b877e9de8e50f4868423a17a08749ac317f3a34391f297", func := "mudlark/mudlarklaw16.PassQuiet", spec := "passQuiet", inPlace := ["sync/atomic.StoreUint64", "sync/atomic.LoadUint64", "sync/atomic.CompareAndSwapUint64", "sync/atomic.AddUint64"], named := ["mudlark/config.spans"], apart := false, laid := [("mudlark/config.spans", laid_mudlark_config_spans)] }
def PassQuietSaid : Prop := passQuietRow.holds Tryd.pinned (OpenSpec.ofChange passQuietSpec)

/-- ITS FALSE NEIGHBOUR: 'it returns false'. Refute it at one input. -/
def passQuietWrong : ChangeSpec := { name := "passQuiet", fn := fun _ => fun
  | [d1, d2] => { results := [.lit (.bool false)], args := [d1, d2] }
  | _ => none }
def PassQuietWrongFalsely : Prop := passQuietRow.holds Tryd.pinned (OpenSpec.ofChange passQuietWrong)

/- THE SECOND FORM. 'bulk': how many values and letters a reading holds, each counted each time it is reached (what is shared counts as often as it is met; a slice's spare places count too). A statement '..UptoSaid' is the law's where the arguments, and the package variables that the reading takes, are together of bulk at most 1048576: NARROWER than '..Said'. Prove '..Said' where nothing that the law and all that it calls make is longer than what came in: it says more and counts as full. Else prove '..UptoSaid'. A law counts once. -/
mutual
def uptoBulk {H : Type} : DataW H → Nat
  | .lit (.string bytes) => bytes.length + 1
  | .lit _ => 1
  | .nil => 1
  | .ptr d => uptoBulk d + 1
  | .slice elems spare => uptoBulkAll elems + uptoBulkAll spare + 1
  | .agg parts => uptoBulkAll parts + 1
  | .iface _ d => uptoBulk d + 1
  | .map entries => uptoBulkEntries entries + 1
  | .held _ => 1
def uptoBulkAll {H : Type} : List (DataW H) → Nat
  | [] => 0
  | d :: r => uptoBulk d + uptoBulkAll r
def uptoBulkEntries {H : Type} : List (Lit × DataW H) → Nat
  | [] => 0
  | x :: r => uptoBulkEntry x + uptoBulkEntries r
def uptoBulkEntry {H : Type} : Lit × DataW H → Nat
  | (.string bytes, d) => bytes.length + uptoBulk d + 1
  | (_, d) => uptoBulk d + 1
 end
def uptoSmall : (H : Type) → List (DataW H) → Bool := fun _ ds => decide (uptoBulkAll ds ≤ 1048576)
def OpenSpec.upto (s : _root_.Go.ChangeSpec) : _root_.Go.OpenSpec := { _root_.Go.OpenSpec.ofChange s with cond := some uptoSmall }

/-- 'mudlarklaw16.PassSteps', WHERE WHAT IT READS IS OF BULK AT MOST 1048576: true; the input reads as it did. -/
def passStepsUptoRow : OpenClaim := { program := "ytipkkmmehjdmpaadoor", sum := "8e5de288db7b149bd3b877e9de8e50f4868423a17a08749ac317f3a34391f297", func := "mudlark/mudlarklaw16.PassSteps", spec := "passSteps", inPlace := ["sync/atomic.StoreUint64", "sync/atomic.LoadUint64", "sync/atomic.CompareAndSwapUint64", "sync/atomic.AddUint64"], named := ["mudlark/config.spans"], apart := false, laid := [("mudlark/config.spans", laid_mudlark_config_spans)], narrowed := true }
def PassStepsUptoSaid : Prop := passStepsUptoRow.holds Tryd.pinned (OpenSpec.upto passStepsSpec)

/-- 'mudlarklaw16.PassGreys', WHERE WHAT IT READS IS OF BULK AT MOST 1048576: true; the input reads as it did. -/
def passGreysUptoRow : OpenClaim := { program := "ytipkkmmehjdmpaadoor", sum := "8e5de288db7b149bd3b877e9de8e50f4868423a17a08749ac317f3a34391f297", func := "mudlark/mudlarklaw16.PassGreys", spec := "passGreys", inPlace := ["sync/atomic.StoreUint64", "sync/atomic.LoadUint64", "sync/atomic.CompareAndSwapUint64", "sync/atomic.AddUint64"], named := ["mudlark/config.spans"], apart := false, laid := [("mudlark/config.spans", laid_mudlark_config_spans)], narrowed := true }
def PassGreysUptoSaid : Prop := passGreysUptoRow.holds Tryd.pinned (OpenSpec.upto passGreysSpec)

/-- 'mudlarklaw16.PassMarks', WHERE WHAT IT READS IS OF BULK AT MOST 1048576: true; the input reads as it did. -/
def passMarksUptoRow : OpenClaim := { program := "ytipkkmmehjdmpaadoor", sum := "8e5de288db7b149bd3b877e9de8e50f4868423a17a08749ac317f3a34391f297", func := "mudlark/mudlarklaw16.PassMarks", spec := "passMarks", inPlace := ["sync/atomic.StoreUint64", "sync/atomic.LoadUint64", "sync/atomic.CompareAndSwapUint64", "sync/atomic.AddUint64"], named := ["mudlark/config.spans"], apart := false, laid := [("mudlark/config.spans", laid_mudlark_config_spans)], narrowed := true }
def PassMarksUptoSaid : Prop := passMarksUptoRow.holds Tryd.pinned (OpenSpec.upto passMarksSpec)

/-- 'mudlarklaw16.PassQuiet', WHERE WHAT IT READS IS OF BULK AT MOST 1048576: true; the input reads as it did. -/
def passQuietUptoRow : OpenClaim := { program := "ytipkkmmehjdmpaadoor", sum := "8e5de288db7b149bd3b877e9de8e50f4868423a17a08749ac317f3a34391f297", func := "mudlark/mudlarklaw16.PassQuiet", spec := "passQuiet", inPlace := ["sync/atomic.StoreUint64", "sync/atomic.LoadUint64", "sync/atomic.CompareAndSwapUint64", "sync/atomic.AddUint64"], named := ["mudlark/config.spans"], apart := false, laid := [("mudlark/config.spans", laid_mudlark_config_spans)], narrowed := true }
def PassQuietUptoSaid : Prop := passQuietUptoRow.holds Tryd.pinned (OpenSpec.upto passQuietSpec)

end Rows
end Go.Proofs.YtipkkmmehjdmpaaDoor
