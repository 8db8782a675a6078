/-
  NARROWER THAN 'FOR EVERY INPUT', by the rows' own cells (each row's printed sentence says how): PopSteps: laid · PopLists: laid · PopTakes: laid · PopDrains: laid.
  DERIVED. THE GIVEN ROWS OF THIS SEAT. 4 by the template 'for every input the law returns true; each argument reads behind the call as it read before'; 0 by the template 'total and deterministic' (their statements: YtgjbabndpmkccaaDoorTotals.lean).
  GIVEN WITH THE SEED: the statements are not yours to turn. If you find one false, say at which input.
  Laid BY PROGRAM, IN A SANDBOX (cutbox-rows.mjs): the forced cells as the released guide's own fill.sh prints them over the translation 62d630ab3bbbbff1… (all of the seat's roots in one cut). By AI agents, Wed Nov 11 2026. No macro, syntax, notation, axiom, sorry.
-/
import Derived.Test.YtgjbabndpmkccaaDoorChecked
import GoSem.Claim
import GoSem.ClaimJoined
import GoSem.ClaimMapViews
import Derived.JoinedTies
import Derived.KernelRfl
namespace Go.Proofs.YtgjbabndpmkccaaDoor
/- THE CELL 'sum', in the pinned program and in every row, IS THE sha256 OF THE DUMP (.gsa) THAT YtgjbabndpmkccaaDoorProg.lean LOADS. Nothing in Lean hashes anything: it is a label: what it is worth is what the hold of that sum in a sandbox is worth. -/
noncomputable def Tryd.pinned : Pinned := { name := "ytgjbabndpmkccaadoor", sum := "62d630ab3bbbbff11886beecdd3a4f594384ee6fece6534900e6cfda5c0f2306", checked := Tryd.checked }
namespace Rows
def none {H : Type} : Left H := { results := [], args := [] }

/- WHAT THE LISTED PACKAGE-LEVEL VARIABLES READ AS WHEN THE CALL BEGINS. Each datum BY PROGRAM (the guide's laid-datum.mjs) off the statement by which the dump's own 'gosem.cut.vars' lays the variable. In a bare row this is a premise. The card (YtgjbabndpmkccaaDoorCards.lean) ties it to the program's text. -/
def laid_mudlark_config_spans {H : Type} : DataW H := .agg [.agg [.lit (.string [99, 101, 108, 108, 115]), .lit (.int .i64 2), .lit (.int .i64 4096)], .agg [.lit (.string [109, 117, 116, 115]), .lit (.int .i64 1), .lit (.int .i64 63)], .agg [.lit (.string [114, 101, 103, 115]), .lit (.int .i64 1), .lit (.int .i64 64)], .agg [.lit (.string [103, 108, 111, 98, 115]), .lit (.int .i64 0), .lit (.int .i64 64)]]

/-- 'mudlarklaw13.PopSteps': WHATEVER THE INPUT: true; the input reads as it did. -/
def popStepsSpec : ChangeSpec := { name := "popSteps", fn := fun _ => fun
  | [d1, d2, d3, d4] => { results := [.lit (.bool true)], args := [d1, d2, d3, d4] }
  | _ => none }
def popStepsRow : OpenClaim := { program := "ytgjbabndpmkccaadoor", sum := "62d630ab3bbbbff11886beecdd3a4f594384ee6fece6534900e6cfda5c0f2306", func := "mudlark/mudlarklaw13.PopSteps", spec := "popSteps", inPlace := ["sync/atomic.StoreUint64", "sync/atomic.LoadUint64", "sync/atomic.CompareAndSwapUint64", "sync/atomic.AddUint64"], named := ["mudlark/config.spans"], apart := false, laid := [("mudlark/config.spans", laid_mudlark_config_spans)] }
def PopStepsSaid : Prop := popStepsRow.holds Tryd.pinned (OpenSpec.ofChange popStepsSpec)

/-- ITS FALSE NEIGHBOUR: 'it returns false'. Refute it at one input. -/
def popStepsWrong : ChangeSpec := { name := "popSteps", fn := fun _ => fun
  | [d1, d2, d3, d4] => { results := [.lit (.bool false)], args := [d1, d2, d3, d4] }
  | _ => none }
def PopStepsWrongFalsely : Prop := popStepsRow.holds Tryd.pinned (OpenSpec.ofChange popStepsWrong)

/-- 'mudlarklaw13.PopLists': WHATEVER THE INPUT: true; the input reads as it did. -/
def popListsSpec : ChangeSpec := { name := "popLists", fn := fun _ => fun
  | [d1, d2] => { results := [.lit (.bool true)], args := [d1, d2] }
  | _ => none }
def popListsRow : OpenClaim := { program := "ytgjbabndpmkccaadoor", sum := "62d630ab3bbbbff11886beecdd3a4f594384ee6fece6534900e6cfda5c0f2306", func := "mudlark/mudlarklaw13.PopLists", spec := "popLists", named := ["mudlark/config.spans"], apart := false, laid := [("mudlark/config.spans", laid_mudlark_config_spans)] }
def PopListsSaid : Prop := popListsRow.holds Tryd.pinned (OpenSpec.ofChange popListsSpec)

/-- ITS FALSE NEIGHBOUR: 'it returns false'. Refute it at one input. -/
def popListsWrong : ChangeSpec := { name := "popLists", fn := fun _ => fun
  | [d1, d2] => { results := [.lit (.bool false)], args := [d1, d2] }
  | _ => none }
def PopListsWrongFalsely : Prop := popListsRow.holds Tryd.pinned (OpenSpec.ofChange popListsWrong)

/-- 'mudlarklaw13.PopTakes': WHATEVER THE INPUT: true; the input reads as it did. -/
def popTakesSpec : ChangeSpec := { name := "popTakes", fn := fun _ => fun
  | [d1, d2] => { results := [.lit (.bool true)], args := [d1, d2] }
  | _ => none }
def popTakesRow : OpenClaim := { program := "ytgjbabndpmkccaadoor", sum := "62d630ab3bbbbff11886beecdd3a4f594384ee6fece6534900e6cfda5c0f2306", func := "mudlark/mudlarklaw13.PopTakes", spec := "popTakes", inPlace := ["sync/atomic.StoreUint64", "sync/atomic.LoadUint64", "sync/atomic.CompareAndSwapUint64", "sync/atomic.AddUint64"], named := ["mudlark/config.spans"], apart := false, laid := [("mudlark/config.spans", laid_mudlark_config_spans)] }
def PopTakesSaid : Prop := popTakesRow.holds Tryd.pinned (OpenSpec.ofChange popTakesSpec)

/-- ITS FALSE NEIGHBOUR: 'it returns false'. Refute it at one input. -/
def popTakesWrong : ChangeSpec := { name := "popTakes", fn := fun _ => fun
  | [d1, d2] => { results := [.lit (.bool false)], args := [d1, d2] }
  | _ => none }
def PopTakesWrongFalsely : Prop := popTakesRow.holds Tryd.pinned (OpenSpec.ofChange popTakesWrong)

/-- 'mudlarklaw13.PopDrains': WHATEVER THE INPUT: true; the input reads as it did. -/
def popDrainsSpec : ChangeSpec := { name := "popDrains", fn := fun _ => fun
  | [d1, d2] => { results := [.lit (.bool true)], args := [d1, d2] }
  | _ => none }
def popDrainsRow : OpenClaim := { program := "ytgjbabndpmkccaadoor", sum := "62d630ab3bbbbff11886beecdd3a4f594384ee6fece6534900e6cfda5c0f2306", func := "mudlark/mudlarklaw13.PopDrains", spec := "popDrains", inPlace := ["sync/atomic.StoreUint64", "sync/atomic.LoadUint64", "sync/atomic.CompareAndSwapUint64", "sync/atomic.AddUint64"], named := ["mudlark/config.spans"], apart := false, laid := [("mudlark/config.spans", laid_mudlark_config_spans)] }
def PopDrainsSaid : Prop := popDrainsRow.holds Tryd.pinned (OpenSpec.ofChange popDrainsSpec)

/-- ITS FALSE NEIGHBOUR: 'it returns false'. Refute it at one input. -/
def popDrainsWrong : ChangeSpec := { name := "popDrains", fn := fun _ => fun
  | [d1, d2] => { results := [.lit (.bool false)], args := [d1, d2] }
  | _ => none }
def PopDrainsWrongFalsely : Prop := popDrainsRow.holds Tryd.pinned (OpenSpec.ofChange popDrainsWrong)

/- THE SECOND FORM. 'bulk': how many values and letters a reading holds, each counted each time it is reached (what is shared counts as often as it is met; a slice's spare places count too). A statement '..UptoSaid' is the law's where the arguments, and the package variables that the reading takes, are together of bulk at most 1048576: NARROWER than '..Said'. Prove '..Said' where nothing that the law and all that it calls make is longer than what came in: it says more and counts as full. Else prove '..UptoSaid'. A law counts once. -/
mutual
def uptoBulk {H : Type} : DataW H → Nat
  | .lit (.string bytes) => bytes.length + 1
  | .lit _ => 1
  | .nil => 1
  | .ptr d => uptoBulk d + 1
  | .slice elems spare => uptoBulkAll elems + uptoBulkAll spare + 1
  | .agg parts => uptoBulkAll parts + 1
  | .iface _ d => uptoBulk d + 1
  | .map entries => uptoBulkEntries entries + 1
  | .held _ => 1
def uptoBulkAll {H : Type} : List (DataW H) → Nat
  | [] => 0
  | d :: r => uptoBulk d + uptoBulkAll r
def uptoBulkEntries {H : Type} : List (Lit × DataW H) → Nat
  | [] => 0
  | x :: r => uptoBulkEntry x + uptoBulkEntries r
def uptoBulkEntry {H : Type} : Lit × DataW H → Nat
  | (.string bytes, d) => bytes.length + uptoBulk d + 1
  | (_, d) => uptoBulk d + 1
 end
def uptoSmall : (H : Type) → List (DataW H) → Bool := fun _ ds => decide (uptoBulkAll ds ≤ 1048576)
def OpenSpec.upto (s : _root_.Go.ChangeSpec) : _root_.Go.OpenSpec := { _root_.Go.OpenSpec.ofChange s with cond := some uptoSmall }

/-- 'mudlarklaw13.PopSteps', WHERE WHAT IT READS IS OF BULK AT MOST 1048576: true; the input reads as it did. -/
def popStepsUptoRow : OpenClaim := { program := "ytgjbabndpmkccaadoor", sum := "62d630ab3bbbbff11886beecdd3a4f594384ee6fece6534900e6cfda5c0f2306", func := "mudlark/mudlarklaw13.PopSteps", spec := "popSteps", inPlace := ["sync/atomic.StoreUint64", "sync/atomic.LoadUint64", "sync/atomic.CompareAndSwapUint64", "sync/atomic.AddUint64"], named := ["mudlark/config.spans"], apart := false, laid := [("mudlark/config.spans", laid_mudlark_config_spans)], narrowed := true }
def PopStepsUptoSaid : Prop := popStepsUptoRow.holds Tryd.pinned (OpenSpec.upto popStepsSpec)

/-- 'mudlarklaw13.PopLists', WHERE WHAT IT READS IS OF BULK AT MOST 1048576: true; the input reads as it did. -/
def popListsUptoRow : OpenClaim := { program := "ytgjbabndpmkccaadoor", sum := "62d630ab3bbbbff11886beecdd3a4f594384ee6fece6534900e6cfda5c0f2306", func := "mudlark/mudlarklaw13.PopLists", spec := "popLists", named := ["mudlark/config.spans"], apart := false, laid := [("mudlark/config.spans", laid_mudlark_config_spans)], narrowed := true }
def PopListsUptoSaid : Prop := popListsUptoRow.holds Tryd.pinned (OpenSpec.upto popListsSpec)

/-- 'mudlarklaw13.PopTakes', WHERE WHAT IT READS IS OF BULK AT MOST 1048576: true; the input reads as it did. -/
def popTakesUptoRow : OpenClaim := { program := "ytgjbabndpmkccaadoor", sum := "62d630ab3bbbbff11886beecdd3a4f594384ee6fece6534900e6cfda5c0f2306", func := "mudlark/mudlarklaw13.PopTakes", spec := "popTakes", inPlace := ["sync/atomic.StoreUint64", "sync/atomic.LoadUint64", "sync/atomic.CompareAndSwapUint64", "sync/atomic.AddUint64"], named := ["mudlark/config.spans"], apart := false, laid := [("mudlark/config.spans", laid_mudlark_config_spans)], narrowed := true }
def PopTakesUptoSaid : Prop := popTakesUptoRow.holds Tryd.pinned (OpenSpec.upto popTakesSpec)

/-- 'mudlarklaw13.PopDrains', WHERE WHAT IT READS IS OF BULK AT MOST 1048576: true; the input reads as it did. -/
def popDrainsUptoRow : OpenClaim := { program := "ytgjbabndpmkccaadoor", sum := "62d630ab3bbbbff11886beecdd3a4f594384ee6fece6534900e6cfda5c0f2306", func := "mudlark/mudlarklaw13.PopDrains", spec := "popDrains", inPlace := ["sync/atomic.StoreUint64", "sync/atomic.LoadUint64", "sync/atomic.CompareAndSwapUint64", "sync/atomic.AddUint64"], named := ["mudlark/config.spans"], apart := false, laid := [("mudlark/config.spans", laid_mudlark_config_spans)], narrowed := true }
def PopDrainsUptoSaid : Prop := popDrainsUptoRow.holds Tryd.pinned (OpenSpec.upto popDrainsSpec)

end Rows
end Go.Proofs.YtgjbabndpmkccaaDoor
