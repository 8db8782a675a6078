/-
  NARROWER THAN 'FOR EVERY INPUT', by the rows' own cells (each row's printed sentence says how): CollectorCycles: laid.
  DERIVED. THE GIVEN ROWS OF THIS SEAT. 1 by the template 'for every input the law returns true; each argument reads behind the call as it read before'; 0 by the template 'total and deterministic' (their statements: YthdcapkchjamoaaDoorTotals.lean).
  GIVEN WITH THE SEED: the statements are not yours to turn. If you find one false, say at which input.
  Laid BY PROGRAM, IN A SANDBOX (cutbox-rows.mjs): the forced cells as the released guide's own fill.sh prints them over the translation d22fbe7c6daa6a31… (all of the seat's roots in one cut). By AI agents, Wed Nov 11 2026. No macro, syntax, notation, axiom, sorry.
-/
import Derived.Test.YthdcapkchjamoaaDoorChecked
import GoSem.Claim
import GoSem.ClaimJoined
import GoSem.ClaimMapViews
import Derived.JoinedTies
import Derived.KernelRfl
namespace Go.Proofs.YthdcapkchjamoaaDoor
/- THE CELL 'sum', in the pinned program and in every row, IS THE sha256 OF THE DUMP (.gsa) THAT YthdcapkchjamoaaDoorProg.lean LOADS. Nothing in Lean hashes anything: it is a label: what it is worth is what the hold of that sum in a sandbox is worth. -/
noncomputable def Tryd.pinned : Pinned := { name := "ythdcapkchjamoaadoor", sum := "d22fbe7c6daa6a31ea48dbfeb769c1af482e7009f8a11413784f9ae92196ce4c", checked := Tryd.checked }
namespace Rows
def none {H : Type} : Left H := { results := [], args := [] }

/- WHAT THE LISTED PACKAGE-LEVEL VARIABLES READ AS WHEN THE CALL BEGINS. Each datum BY PROGRAM (the guide's laid-datum.mjs) off the statement by which the dump's own 'gosem.cut.vars' lays the variable. In a bare row this is a premise. The card (YthdcapkchjamoaaDoorCards.lean) ties it to the program's text. -/
def laid_mudlark_config_spans {H : Type} : DataW H := .agg [.agg [.lit (.string [99, 101, 108, 108, 115]), .lit (.int .i64 2), .lit (.int .i64 4096)], .agg [.lit (.string [109, 117, 116, 115]), .lit (.int .i64 1), .lit (.int .i64 63)], .agg [.lit (.string [114, 101, 103, 115]), .lit (.int .i64 1), .lit (.int .i64 64)], .agg [.lit (.string [103, 108, 111, 98, 115]), .lit (.int .i64 0), .lit (.int .i64 64)]]

/-- 'mudlarklaw19.CollectorCycles': WHATEVER THE INPUT: true; the input reads as it did. -/
def collectorCyclesSpec : ChangeSpec := { name := "collectorCycles", fn := fun _ => fun
  | [d1, d2] => { results := [.lit (.bool true)], args := [d1, d2] }
  | _ => none }
def collectorCyclesRow : OpenClaim := { program := "ythdcapkchjamoaadoor", sum := "d22fbe7c6daa6a31ea48dbfeb769c1af482e7009f8a11413784f9ae92196ce4c", func := "mudlark/mudlarklaw19.CollectorCycles", spec := "collectorCycles", inPlace := ["sync/atomic.StoreUint64", "sync/atomic.LoadUint64", "sync/atomic.CompareAndSwapUint64", "sync/atomic.AddUint64"], unfollowed := true, recurses := true, named := ["mudlark/config.spans"], apart := false, laid := [("mudlark/config.spans", laid_mudlark_config_spans)] }
def CollectorCyclesSaid : Prop := collectorCyclesRow.holds Tryd.pinned (OpenSpec.ofChange collectorCyclesSpec)

/-- ITS FALSE NEIGHBOUR: 'it returns false'. Refute it at one input. -/
def collectorCyclesWrong : ChangeSpec := { name := "collectorCycles", fn := fun _ => fun
  | [d1, d2] => { results := [.lit (.bool false)], args := [d1, d2] }
  | _ => none }
def CollectorCyclesWrongFalsely : Prop := collectorCyclesRow.holds Tryd.pinned (OpenSpec.ofChange collectorCyclesWrong)

/- THE SECOND FORM. 'bulk': how many values and letters a reading holds, each counted each time it is reached (what is shared counts as often as it is met; a slice's spare places count too). A statement '..UptoSaid' is the law's where the arguments, and the package variables that the reading takes, are together of bulk at most 1048576: NARROWER than '..Said'. Prove '..Said' where nothing that the law and all that it calls make is longer than what came in: it says more and counts as full. Else prove '..UptoSaid'. A law counts once. -/
mutual
def uptoBulk {H : Type} : DataW H → Nat
  | .lit (.string bytes) => bytes.length + 1
  | .lit _ => 1
  | .nil => 1
  | .ptr d => uptoBulk d + 1
  | .slice elems spare => uptoBulkAll elems + uptoBulkAll spare + 1
  | .agg parts => uptoBulkAll parts + 1
  | .iface _ d => uptoBulk d + 1
  | .map entries => uptoBulkEntries entries + 1
  | .held _ => 1
def uptoBulkAll {H : Type} : List (DataW H) → Nat
  | [] => 0
  | d :: r => uptoBulk d + uptoBulkAll r
def uptoBulkEntries {H : Type} : List (Lit × DataW H) → Nat
  | [] => 0
  | x :: r => uptoBulkEntry x + uptoBulkEntries r
def uptoBulkEntry {H : Type} : Lit × DataW H → Nat
  | (.string bytes, d) => bytes.length + uptoBulk d + 1
  | (_, d) => uptoBulk d + 1
 end
def uptoSmall : (H : Type) → List (DataW H) → Bool := fun _ ds => decide (uptoBulkAll ds ≤ 1048576)
def OpenSpec.upto (s : _root_.Go.ChangeSpec) : _root_.Go.OpenSpec := { _root_.Go.OpenSpec.ofChange s with cond := some uptoSmall }

/-- 'mudlarklaw19.CollectorCycles', WHERE WHAT IT READS IS OF BULK AT MOST 1048576: true; the input reads as it did. -/
def collectorCyclesUptoRow : OpenClaim := { program := "ythdcapkchjamoaadoor", sum := "d22fbe7c6daa6a31ea48dbfeb769c1af482e7009f8a11413784f9ae92196ce4c", func := "mudlark/mudlarklaw19.CollectorCycles", spec := "collectorCycles", inPlace := ["sync/atomic.StoreUint64", "sync/atomic.LoadUint64", "sync/atomic.CompareAndSwapUint64", "sync/atomic.AddUint64"], unfollowed := true, recurses := true, named := ["mudlark/config.spans"], apart := false, laid := [("mudlark/config.spans", laid_mudlark_config_spans)], narrowed := true }
def CollectorCyclesUptoSaid : Prop := collectorCyclesUptoRow.holds Tryd.pinned (OpenSpec.upto collectorCyclesSpec)

end Rows
end Go.Proofs.YthdcapkchjamoaaDoor
