/-
  NARROWER THAN 'FOR EVERY INPUT', by the rows' own cells (each row's printed sentence says how): BarrierSteps: laid · BarrierBegins: laid · BarrierShades: laid · BarrierTwice: laid.
  DERIVED. THE GIVEN ROWS OF THIS SEAT. 4 by the template 'for every input the law returns true; each argument reads behind the call as it read before'; 0 by the template 'total and deterministic' (their statements: YtckmdkebacbcjaaDoorTotals.lean).
  GIVEN WITH THE SEED: the statements are not yours to turn. If you find one false, say at which input.
  Laid BY PROGRAM, IN A SANDBOX (cutbox-rows.mjs): the forced cells as the released guide's own fill.sh prints them over the translation 0411296a16554a8d… (all of the seat's roots in one cut). By AI agents, Wed Nov 11 2026. No macro, syntax, notation, axiom, sorry.
-/
import Derived.Test.YtckmdkebacbcjaaDoorChecked
import GoSem.Claim
import GoSem.ClaimJoined
import GoSem.ClaimMapViews
import Derived.JoinedTies
import Derived.KernelRfl
namespace Go.Proofs.YtckmdkebacbcjaaDoor
/- THE CELL 'sum', in the pinned program and in every row, IS THE sha256 OF THE DUMP (.gsa) THAT YtckmdkebacbcjaaDoorProg.lean LOADS. Nothing in Lean hashes anything: it is a label: what it is worth is what the hold of that sum in a sandbox is worth. -/
noncomputable def Tryd.pinned : Pinned := { name := "ytckmdkebacbcjaadoor", sum := "0411296a16554a8d5e899f22918c41f7bb32f8f8c15805c42b0413d59e4a7401", checked := Tryd.checked }
namespace Rows
def none {H : Type} : Left H := { results := [], args := [] }

/- WHAT THE LISTED PACKAGE-LEVEL VARIABLES READ AS WHEN THE CALL BEGINS. Each datum BY PROGRAM (the guide's laid-datum.mjs) off the statement by which the dump's own 'gosem.cut.vars' lays the variable. In a bare row this is a premise. The card (YtckmdkebacbcjaaDoorCards.lean) ties it to the program's text. -/
def laid_mudlark_config_spans {H : Type} : DataW H := .agg [.agg [.lit (.string [99, 101, 108, 108, 115]), .lit (.int .i64 2), .lit (.int .i64 4096)], .agg [.lit (.string [109, 117, 116, 115]), .lit (.int .i64 1), .lit (.int .i64 63)], .agg [.lit (.string [114, 101, 103, 115]), .lit (.int .i64 1), .lit (.int .i64 64)], .agg [.lit (.string [103, 108, 111, 98, 115]), .lit (.int .i64 0), .lit (.int .i64 64)]]

/-- 'mudlarklaw10.BarrierSteps': WHATEVER THE INPUT: true; the input reads as it did. -/
def barrierStepsSpec : ChangeSpec := { name := "barrierSteps", fn := fun _ => fun
  | [d1, d2, d3, d4] => { results := [.lit (.bool true)], args := [d1, d2, d3, d4] }
  | _ => none }
def barrierStepsRow : OpenClaim := { program := "ytckmdkebacbcjaadoor", sum := "0411296a16554a8d5e899f22918c41f7bb32f8f8c15805c42b0413d59e4a7401", func := "mudlark/mudlarklaw10.BarrierSteps", spec := "barrierSteps", inPlace := ["sync/atomic.StoreUint64", "sync/atomic.LoadUint64", "sync/atomic.CompareAndSwapUint64", "sync/atomic.AddUint64"], named := ["mudlark/config.spans"], apart := false, laid := [("mudlark/config.spans", laid_mudlark_config_spans)] }
def BarrierStepsSaid : Prop := barrierStepsRow.holds Tryd.pinned (OpenSpec.ofChange barrierStepsSpec)

/-- ITS FALSE NEIGHBOUR: 'it returns false'. Refute it at one input. -/
def barrierStepsWrong : ChangeSpec := { name := "barrierSteps", fn := fun _ => fun
  | [d1, d2, d3, d4] => { results := [.lit (.bool false)], args := [d1, d2, d3, d4] }
  | _ => none }
def BarrierStepsWrongFalsely : Prop := barrierStepsRow.holds Tryd.pinned (OpenSpec.ofChange barrierStepsWrong)

/-- 'mudlarklaw10.BarrierBegins': WHATEVER THE INPUT: true; the input reads as it did. -/
def barrierBeginsSpec : ChangeSpec := { name := "barrierBegins", fn := fun _ => fun
  | [d1, d2, d3] => { results := [.lit (.bool true)], args := [d1, d2, d3] }
  | _ => none }
def barrierBeginsRow : OpenClaim := { program := "ytckmdkebacbcjaadoor", sum := "0411296a16554a8d5e899f22918c41f7bb32f8f8c15805c42b0413d59e4a7401", func := "mudlark/mudlarklaw10.BarrierBegins", spec := "barrierBegins", inPlace := ["sync/atomic.StoreUint64", "sync/atomic.LoadUint64", "sync/atomic.CompareAndSwapUint64", "sync/atomic.AddUint64"], named := ["mudlark/config.spans"], apart := false, laid := [("mudlark/config.spans", laid_mudlark_config_spans)] }
def BarrierBeginsSaid : Prop := barrierBeginsRow.holds Tryd.pinned (OpenSpec.ofChange barrierBeginsSpec)

/-- ITS FALSE NEIGHBOUR: 'it returns false'. Refute it at one input. -/
def barrierBeginsWrong : ChangeSpec := { name := "barrierBegins", fn := fun _ => fun
  | [d1, d2, d3] => { results := [.lit (.bool false)], args := [d1, d2, d3] }
  | _ => none }
def BarrierBeginsWrongFalsely : Prop := barrierBeginsRow.holds Tryd.pinned (OpenSpec.ofChange barrierBeginsWrong)

/-- 'mudlarklaw10.BarrierShades': WHATEVER THE INPUT: true; the input reads as it did. -/
def barrierShadesSpec : ChangeSpec := { name := "barrierShades", fn := fun _ => fun
  | [d1, d2, d3] => { results := [.lit (.bool true)], args := [d1, d2, d3] }
  | _ => none }
def barrierShadesRow : OpenClaim := { program := "ytckmdkebacbcjaadoor", sum := "0411296a16554a8d5e899f22918c41f7bb32f8f8c15805c42b0413d59e4a7401", func := "mudlark/mudlarklaw10.BarrierShades", spec := "barrierShades", inPlace := ["sync/atomic.StoreUint64", "sync/atomic.LoadUint64", "sync/atomic.CompareAndSwapUint64", "sync/atomic.AddUint64"], named := ["mudlark/config.spans"], apart := false, laid := [("mudlark/config.spans", laid_mudlark_config_spans)] }
def BarrierShadesSaid : Prop := barrierShadesRow.holds Tryd.pinned (OpenSpec.ofChange barrierShadesSpec)

/-- ITS FALSE NEIGHBOUR: 'it returns false'. Refute it at one input. -/
def barrierShadesWrong : ChangeSpec := { name := "barrierShades", fn := fun _ => fun
  | [d1, d2, d3] => { results := [.lit (.bool false)], args := [d1, d2, d3] }
  | _ => none }
def BarrierShadesWrongFalsely : Prop := barrierShadesRow.holds Tryd.pinned (OpenSpec.ofChange barrierShadesWrong)

/-- 'mudlarklaw10.BarrierTwice': WHATEVER THE INPUT: true; the input reads as it did. -/
def barrierTwiceSpec : ChangeSpec := { name := "barrierTwice", fn := fun _ => fun
  | [d1, d2, d3, d4] => { results := [.lit (.bool true)], args := [d1, d2, d3, d4] }
  | _ => none }
def barrierTwiceRow : OpenClaim := { program := "ytckmdkebacbcjaadoor", sum := "0411296a16554a8d5e899f22918c41f7bb32f8f8c15805c42b0413d59e4a7401", func := "mudlark/mudlarklaw10.BarrierTwice", spec := "barrierTwice", inPlace := ["sync/atomic.StoreUint64", "sync/atomic.LoadUint64", "sync/atomic.CompareAndSwapUint64", "sync/atomic.AddUint64"], named := ["mudlark/config.spans"], apart := false, laid := [("mudlark/config.spans", laid_mudlark_config_spans)] }
def BarrierTwiceSaid : Prop := barrierTwiceRow.holds Tryd.pinned (OpenSpec.ofChange barrierTwiceSpec)

/-- ITS FALSE NEIGHBOUR: 'it returns false'. Refute it at one input. -/
def barrierTwiceWrong : ChangeSpec := { name := "barrierTwice", fn := fun _ => fun
  | [d1, d2, d3, d4] => { results := [.lit (.bool false)], args := [d1, d2, d3, d4] }
  | _ => none }
def BarrierTwiceWrongFalsely : Prop := barrierTwiceRow.holds Tryd.pinned (OpenSpec.ofChange barrierTwiceWrong)

/- THE SECOND FORM. 'bulk': how many values and letters a reading holds, each counted each time it is reached (what is shared counts as often as it is met; a slice's spare places count too). A statement '..UptoSaid' is the law's where the arguments, and the package variables that the reading takes, are together of bulk at most 1048576: NARROWER than '..Said'. Prove '..Said' where nothing that the law and all that it calls make is longer than what came in: it says more and counts as full. Else prove '..UptoSaid'. A law counts once. -/
mutual
def uptoBulk {H : Type} : DataW H → Nat
  | .lit (.string bytes) => bytes.length + 1
  | .lit _ => 1
  | .nil => 1
  | .ptr d => uptoBulk d + 1
  | .slice elems spare => uptoBulkAll elems + uptoBulkAll spare + 1
  | .agg parts => uptoBulkAll parts + 1
  | .iface _ d => uptoBulk d + 1
  | .map entries => uptoBulkEntries entries + 1
  | .held _ => 1
def uptoBulkAll {H : Type} : List (DataW H) → Nat
  | [] => 0
  | d :: r => uptoBulk d + uptoBulkAll r
def uptoBulkEntries {H : Type} : List (Lit × DataW H) → Nat
  | [] => 0
  | x :: r => uptoBulkEntry x + uptoBulkEntries r
def uptoBulkEntry {H : Type} : Lit × DataW H → Nat
  | (.string bytes, d) => bytes.length + uptoBulk d + 1
  | (_, d) => uptoBulk d + 1
 end
def uptoSmall : (H : Type) → List (DataW H) → Bool := fun _ ds => decide (uptoBulkAll ds ≤ 1048576)
def OpenSpec.upto (s : _root_.Go.ChangeSpec) : _root_.Go.OpenSpec := { _root_.Go.OpenSpec.ofChange s with cond := some uptoSmall }

/-- 'mudlarklaw10.BarrierSteps', WHERE WHAT IT READS IS OF BULK AT MOST 1048576: true; the input reads as it did. -/
def barrierStepsUptoRow : OpenClaim := { program := "ytckmdkebacbcjaadoor", sum := "0411296a16554a8d5e899f22918c41f7bb32f8f8c15805c42b0413d59e4a7401", func := "mudlark/mudlarklaw10.BarrierSteps", spec := "barrierSteps", inPlace := ["sync/atomic.StoreUint64", "sync/atomic.LoadUint64", "sync/atomic.CompareAndSwapUint64", "sync/atomic.AddUint64"], named := ["mudlark/config.spans"], apart := false, laid := [("mudlark/config.spans", laid_mudlark_config_spans)], narrowed := true }
def BarrierStepsUptoSaid : Prop := barrierStepsUptoRow.holds Tryd.pinned (OpenSpec.upto barrierStepsSpec)

/-- 'mudlarklaw10.BarrierBegins', WHERE WHAT IT READS IS OF BULK AT MOST 1048576: true; the input reads as it did. -/
def barrierBeginsUptoRow : OpenClaim := { program := "ytckmdkebacbcjaadoor", sum := "0411296a16554a8d5e899f22918c41f7bb32f8f8c15805c42b0413d59e4a7401", func := "mudlark/mudlarklaw10.BarrierBegins", spec := "barrierBegins", inPlace := ["sync/atomic.StoreUint64", "sync/atomic.LoadUint64", "sync/atomic.CompareAndSwapUint64", "sync/atomic.AddUint64"], named := ["mudlark/config.spans"], apart := false, laid := [("mudlark/config.spans", laid_mudlark_config_spans)], narrowed := true }
def BarrierBeginsUptoSaid : Prop := barrierBeginsUptoRow.holds Tryd.pinned (OpenSpec.upto barrierBeginsSpec)

/-- 'mudlarklaw10.BarrierShades', WHERE WHAT IT READS IS OF BULK AT MOST 1048576: true; the input reads as it did. -/
def barrierShadesUptoRow : OpenClaim := { program := "ytckmdkebacbcjaadoor", sum := "0411296a16554a8d5e899f22918c41f7bb32f8f8c15805c42b0413d59e4a7401", func := "mudlark/mudlarklaw10.BarrierShades", spec := "barrierShades", inPlace := ["sync/atomic.StoreUint64", "sync/atomic.LoadUint64", "sync/atomic.CompareAndSwapUint64", "sync/atomic.AddUint64"], named := ["mudlark/config.spans"], apart := false, laid := [("mudlark/config.spans", laid_mudlark_config_spans)], narrowed := true }
def BarrierShadesUptoSaid : Prop := barrierShadesUptoRow.holds Tryd.pinned (OpenSpec.upto barrierShadesSpec)

/-- 'mudlarklaw10.BarrierTwice', WHERE WHAT IT READS IS OF BULK AT MOST 1048576: true; the input reads as it did. -/
def barrierTwiceUptoRow : OpenClaim := { program := "ytckmdkebacbcjaadoor", sum := "0411296a16554a8d5e899f22918c41f7bb32f8f8c15805c42b0413d59e4a7401", func := "mudlark/mudlarklaw10.BarrierTwice", spec := "barrierTwice", inPlace := ["sync/atomic.StoreUint64", "sync/atomic.LoadUint64", "sync/atomic.CompareAndSwapUint64", "sync/atomic.AddUint64"], named := ["mudlark/config.spans"], apart := false, laid := [("mudlark/config.spans", laid_mudlark_config_spans)], narrowed := true }
def BarrierTwiceUptoSaid : Prop := barrierTwiceUptoRow.holds Tryd.pinned (OpenSpec.upto barrierTwiceSpec)

end Rows
end Go.Proofs.YtckmdkebacbcjaaDoor
