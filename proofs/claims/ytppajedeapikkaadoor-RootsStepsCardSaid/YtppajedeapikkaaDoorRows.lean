/-
  NARROWER THAN 'FOR EVERY INPUT', by the rows' own cells (each row's printed sentence says how): RootsSteps: laid · RootsShades: laid · RootsOnce: laid.
  DERIVED. THE GIVEN ROWS OF THIS SEAT. 3 by the template 'for every input the law returns true; each argument reads behind the call as it read before'; 0 by the template 'total and deterministic' (their statements: YtppajedeapikkaaDoorTotals.lean).
  GIVEN WITH THE SEED: the statements are not yours to turn. If you find one false, say at which input.
  Laid BY PROGRAM, IN A SANDBOX (cutbox-rows.mjs): the forced cells as the released guide's own fill.sh prints them over the translation 541d9f591acf4bbe… (all of the seat's roots in one cut). By AI agents, Wed Nov 11 2026. No macro, syntax, notation, axiom, sorry.
-/
import Derived.Test.YtppajedeapikkaaDoorChecked
import GoSem.Claim
import GoSem.ClaimJoined
import GoSem.ClaimMapViews
import Derived.JoinedTies
import Derived.KernelRfl
namespace Go.Proofs.YtppajedeapikkaaDoor
/- THE CELL 'sum', in the pinned program and in every row, IS THE sha256 OF THE DUMP (.gsa) THAT YtppajedeapikkaaDoorProg.lean LOADS. Nothing in Lean hashes anything: it is a label: what it is worth is what the hold of that sum in a sandbox is worth. -/
noncomputable def Tryd.pinned : Pinned := { name := "ytppajedeapikkaadoor", sum := "541d9f591acf4bbe5eec7bb0fe64909c0b994ef75b42365fb671974f9ccb4bc9", checked := Tryd.checked }
namespace Rows
def none {H : Type} : Left H := { results := [], args := [] }

/- WHAT THE LISTED PACKAGE-LEVEL VARIABLES READ AS WHEN THE CALL BEGINS. Each datum BY PROGRAM (the guide's laid-datum.mjs) off the statement by which the dump's own 'gosem.cut.vars' lays the variable. In a bare row this is a premise. The card (YtppajedeapikkaaDoorCards.lean) ties it to the program's text. -/
def laid_mudlark_config_spans {H : Type} : DataW H := .agg [.agg [.lit (.string [99, 101, 108, 108, 115]), .lit (.int .i64 2), .lit (.int .i64 4096)], .agg [.lit (.string [109, 117, 116, 115]), .lit (.int .i64 1), .lit (.int .i64 63)], .agg [.lit (.string [114, 101, 103, 115]), .lit (.int .i64 1), .lit (.int .i64 64)], .agg [.lit (.string [103, 108, 111, 98, 115]), .lit (.int .i64 0), .lit (.int .i64 64)]]

/-- 'mudlarklaw15.RootsSteps': WHATEVER THE INPUT: true; the input reads as it did. -/
def rootsStepsSpec : ChangeSpec := { name := "rootsSteps", fn := fun _ => fun
  | [d1, d2, d3] => { results := [.lit (.bool true)], args := [d1, d2, d3] }
  | _ => none }
def rootsStepsRow : OpenClaim := { program := "ytppajedeapikkaadoor", sum := "541d9f591acf4bbe5eec7bb0fe64909c0b994ef75b42365fb671974f9ccb4bc9", func := "mudlark/mudlarklaw15.RootsSteps", spec := "rootsSteps", inPlace := ["sync/atomic.StoreUint64", "sync/atomic.LoadUint64", "sync/atomic.CompareAndSwapUint64", "sync/atomic.AddUint64"], named := ["mudlark/config.spans"], apart := false, laid := [("mudlark/config.spans", laid_mudlark_config_spans)] }
def RootsStepsSaid : Prop := rootsStepsRow.holds Tryd.pinned (OpenSpec.ofChange rootsStepsSpec)

/-- ITS FALSE NEIGHBOUR: 'it returns false'. Refute it at one input. -/
def rootsStepsWrong : ChangeSpec := { name := "rootsSteps", fn := fun _ => fun
  | [d1, d2, d3] => { results := [.lit (.bool false)], args := [d1, d2, d3] }
  | _ => none }
def RootsStepsWrongFalsely : Prop := rootsStepsRow.holds Tryd.pinned (OpenSpec.ofChange rootsStepsWrong)

/-- 'mudlarklaw15.RootsShades': WHATEVER THE INPUT: true; the input reads as it did. -/
def rootsShadesSpec : ChangeSpec := { name := "rootsShades", fn := fun _ => fun
  | [d1, d2] => { results := [.lit (.bool true)], args := [d1, d2] }
  | _ => none }
def rootsShadesRow : OpenClaim := { program := "ytppajedeapikkaadoor", sum := "541d9f591acf4bbe5eec7bb0fe64909c0b994ef75b42365fb671974f9ccb4bc9", func := "mudlark/mudlarklaw15.RootsShades", spec := "rootsShades", inPlace := ["sync/atomic.StoreUint64", "sync/atomic.LoadUint64", "sync/atomic.CompareAndSwapUint64", "sync/atomic.AddUint64"], named := ["mudlark/config.spans"], apart := false, laid := [("mudlark/config.spans", laid_mudlark_config_spans)] }
def RootsShadesSaid : Prop := rootsShadesRow.holds Tryd.pinned (OpenSpec.ofChange rootsShadesSpec)

/-- ITS FALSE NEIGHBOUR: 'it returns false'. Refute it at one input. -/
def rootsShadesWrong : ChangeSpec := { name := "rootsShades", fn := fun _ => fun
  | [d1, d2] => { results := [.lit (.bool false)], args := [d1, d2] }
  | _ => none }
def RootsShadesWrongFalsely : Prop := rootsShadesRow.holds Tryd.pinned (OpenSpec.ofChange rootsShadesWrong)

/-- 'mudlarklaw15.RootsOnce': WHATEVER THE INPUT: true; the input reads as it did. -/
def rootsOnceSpec : ChangeSpec := { name := "rootsOnce", fn := fun _ => fun
  | [d1, d2] => { results := [.lit (.bool true)], args := [d1, d2] }
  | _ => none }
def rootsOnceRow : OpenClaim := { program := "ytppajedeapikkaadoor", sum := "541d9f591acf4bbe5eec7bb0fe64909c0b994ef75b42365fb671974f9ccb4bc9", func := "mudlark/mudlarklaw15.RootsOnce", spec := "rootsOnce", inPlace := ["sync/atomic.StoreUint64", "sync/atomic.LoadUint64", "sync/atomic.CompareAndSwapUint64", "sync/atomic.AddUint64"], named := ["mudlark/config.spans"], apart := false, laid := [("mudlark/config.spans", laid_mudlark_config_spans)] }
def RootsOnceSaid : Prop := rootsOnceRow.holds Tryd.pinned (OpenSpec.ofChange rootsOnceSpec)

/-- ITS FALSE NEIGHBOUR: 'it returns false'. Refute it at one input. -/
def rootsOnceWrong : ChangeSpec := { name := "rootsOnce", fn := fun _ => fun
  | [d1, d2] => { results := [.lit (.bool false)], args := [d1, d2] }
  | _ => none }
def RootsOnceWrongFalsely : Prop := rootsOnceRow.holds Tryd.pinned (OpenSpec.ofChange rootsOnceWrong)

/- THE SECOND FORM. 'bulk': how many values and letters a reading holds, each counted each time it is reached (what is shared counts as often as it is met; a slice's spare places count too). A statement '..UptoSaid' is the law's where the arguments, and the package variables that the reading takes, are together of bulk at most 1048576: NARROWER than '..Said'. Prove '..Said' where nothing that the law and all that it calls make is longer than what came in: it says more and counts as full. Else prove '..UptoSaid'. A law counts once. -/
mutual
def uptoBulk {H : Type} : DataW H → Nat
  | .lit (.string bytes) => bytes.length + 1
  | .lit _ => 1
  | .nil => 1
  | .ptr d => uptoBulk d + 1
  | .slice elems spare => uptoBulkAll elems + uptoBulkAll spare + 1
  | .agg parts => uptoBulkAll parts + 1
  | .iface _ d => uptoBulk d + 1
  | .map entries => uptoBulkEntries entries + 1
  | .held _ => 1
def uptoBulkAll {H : Type} : List (DataW H) → Nat
  | [] => 0
  | d :: r => uptoBulk d + uptoBulkAll r
def uptoBulkEntries {H : Type} : List (Lit × DataW H) → Nat
  | [] => 0
  | x :: r => uptoBulkEntry x + uptoBulkEntries r
def uptoBulkEntry {H : Type} : Lit × DataW H → Nat
  | (.string bytes, d) => bytes.length + uptoBulk d + 1
  | (_, d) => uptoBulk d + 1
 end
def uptoSmall : (H : Type) → List (DataW H) → Bool := fun _ ds => decide (uptoBulkAll ds ≤ 1048576)
def OpenSpec.upto (s : _root_.Go.ChangeSpec) : _root_.Go.OpenSpec := { _root_.Go.OpenSpec.ofChange s with cond := some uptoSmall }

/-- 'mudlarklaw15.RootsSteps', WHERE WHAT IT READS IS OF BULK AT MOST 1048576: true; the input reads as it did. -/
def rootsStepsUptoRow : OpenClaim := { program := "ytppajedeapikkaadoor", sum := "541d9f591acf4bbe5eec7bb0fe64909c0b994ef75b42365fb671974f9ccb4bc9", func := "mudlark/mudlarklaw15.RootsSteps", spec := "rootsSteps", inPlace := ["sync/atomic.StoreUint64", "sync/atomic.LoadUint64", "sync/atomic.CompareAndSwapUint64", "sync/atomic.AddUint64"], named := ["mudlark/config.spans"], apart := false, laid := [("mudlark/config.spans", laid_mudlark_config_spans)], narrowed := true }
def RootsStepsUptoSaid : Prop := rootsStepsUptoRow.holds Tryd.pinned (OpenSpec.upto rootsStepsSpec)

/-- 'mudlarklaw15.RootsShades', WHERE WHAT IT READS IS OF BULK AT MOST 1048576: true; the input reads as it did. -/
def rootsShadesUptoRow : OpenClaim := { program := "ytppajedeapikkaadoor", sum := "541d9f591acf4bbe5eec7bb0fe64909c0b994ef75b42365fb671974f9ccb4bc9", func := "mudlark/mudlarklaw15.RootsShades", spec := "rootsShades", inPlace := ["sync/atomic.StoreUint64", "sync/atomic.LoadUint64", "sync/atomic.CompareAndSwapUint64", "sync/atomic.AddUint64"], named := ["mudlark/config.spans"], apart := false, laid := [("mudlark/config.spans", laid_mudlark_config_spans)], narrowed := true }
def RootsShadesUptoSaid : Prop := rootsShadesUptoRow.holds Tryd.pinned (OpenSpec.upto rootsShadesSpec)

/-- 'mudlarklaw15.RootsOnce', WHERE WHAT IT READS IS OF BULK AT MOST 1048576: true; the input reads as it did. -/
def rootsOnceUptoRow : OpenClaim := { program := "ytppajedeapikkaadoor", sum := "541d9f591acf4bbe5eec7bb0fe64909c0b994ef75b42365fb671974f9ccb4bc9", func := "mudlark/mudlarklaw15.RootsOnce", spec := "rootsOnce", inPlace := ["sync/atomic.StoreUint64", "sync/atomic.LoadUint64", "sync/atomic.CompareAndSwapUint64", "sync/atomic.AddUint64"], named := ["mudlark/config.spans"], apart := false, laid := [("mudlark/config.spans", laid_mudlark_config_spans)], narrowed := true }
def RootsOnceUptoSaid : Prop := rootsOnceUptoRow.holds Tryd.pinned (OpenSpec.upto rootsOnceSpec)

end Rows
end Go.Proofs.YtppajedeapikkaaDoor
