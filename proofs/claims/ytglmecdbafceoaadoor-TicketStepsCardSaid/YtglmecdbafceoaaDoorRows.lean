/-
  NARROWER THAN 'FOR EVERY INPUT', by the rows' own cells (each row's printed sentence says how): TicketSteps: laid · TicketQueue: laid.
  DERIVED. THE GIVEN ROWS OF THIS SEAT. 2 by the template 'for every input the law returns true; each argument reads behind the call as it read before'; 0 by the template 'total and deterministic' (their statements: YtglmecdbafceoaaDoorTotals.lean).
  GIVEN WITH THE SEED: the statements are not yours to turn. If you find one false, say at which input.
  Laid BY PROGRAM, IN A SANDBOX (cutbox-rows.mjs): the forced cells as the released guide's own fill.sh prints them over the translation 0949e677db0e83ee… (all of the seat's roots in one cut). By AI agents, Wed Nov 11 2026. No macro, syntax, notation, axiom, sorry.
-/
import Derived.Test.YtglmecdbafceoaaDoorChecked
import GoSem.Claim
import GoSem.ClaimJoined
import GoSem.ClaimMapViews
import Derived.JoinedTies
import Derived.KernelRfl
namespace Go.Proofs.YtglmecdbafceoaaDoor
/- THE CELL 'sum', in the pinned program and in every row, IS THE sha256 OF THE DUMP (.gsa) THAT YtglmecdbafceoaaDoorProg.lean LOADS. Nothing in Lean hashes anything: it is a label: what it is worth is what the hold of that sum in a sandbox is worth. -/
noncomputable def Tryd.pinned : Pinned := { name := "ytglmecdbafceoaadoor", sum := "0949e677db0e83ee8bae680fca116cacc7a2bf026a5f82a653012e538b55b589", checked := Tryd.checked }
namespace Rows
def none {H : Type} : Left H := { results := [], args := [] }

/- WHAT THE LISTED PACKAGE-LEVEL VARIABLES READ AS WHEN THE CALL BEGINS. Each datum BY PROGRAM (the guide's laid-datum.mjs) off the statement by which the dump's own 'gosem.cut.vars' lays the variable. In a bare row this is a premise. The card (YtglmecdbafceoaaDoorCards.lean) ties it to the program's text. -/
def laid_mudlark_config_spans {H : Type} : DataW H := .agg [.agg [.lit (.string [99, 101, 108, 108, 115]), .lit (.int .i64 2), .lit (.int .i64 4096)], .agg [.lit (.string [109, 117, 116, 115]), .lit (.int .i64 1), .lit (.int .i64 63)], .agg [.lit (.string [114, 101, 103, 115]), .lit (.int .i64 1), .lit (.int .i64 64)], .agg [.lit (.string [103, 108, 111, 98, 115]), .lit (.int .i64 0), .lit (.int .i64 64)]]

/-- 'mudlarklaw11.TicketSteps': WHATEVER THE INPUT: true; the input reads as it did. -/
def ticketStepsSpec : ChangeSpec := { name := "ticketSteps", fn := fun _ => fun
  | [d1, d2, d3, d4] => { results := [.lit (.bool true)], args := [d1, d2, d3, d4] }
  | _ => none }
def ticketStepsRow : OpenClaim := { program := "ytglmecdbafceoaadoor", sum := "0949e677db0e83ee8bae680fca116cacc7a2bf026a5f82a653012e538b55b589", func := "mudlark/mudlarklaw11.TicketSteps", spec := "ticketSteps", inPlace := ["sync/atomic.StoreUint64", "sync/atomic.LoadUint64", "sync/atomic.CompareAndSwapUint64", "sync/atomic.AddUint64"], named := ["mudlark/config.spans"], apart := false, laid := [("mudlark/config.spans", laid_mudlark_config_spans)] }
def TicketStepsSaid : Prop := ticketStepsRow.holds Tryd.pinned (OpenSpec.ofChange ticketStepsSpec)

/-- ITS FALSE NEIGHBOUR: 'it returns false'. Refute it at one input. -/
def ticketStepsWrong : ChangeSpec := { name := "ticketSteps", fn := fun _ => fun
  | [d1, d2, d3, d4] => { results := [.lit (.bool false)], args := [d1, d2, d3, d4] }
  | _ => none }
def TicketStepsWrongFalsely : Prop := ticketStepsRow.holds Tryd.pinned (OpenSpec.ofChange ticketStepsWrong)

/-- 'mudlarklaw11.TicketQueue': WHATEVER THE INPUT: true; the input reads as it did. -/
def ticketQueueSpec : ChangeSpec := { name := "ticketQueue", fn := fun _ => fun
  | [d1, d2, d3] => { results := [.lit (.bool true)], args := [d1, d2, d3] }
  | _ => none }
def ticketQueueRow : OpenClaim := { program := "ytglmecdbafceoaadoor", sum := "0949e677db0e83ee8bae680fca116cacc7a2bf026a5f82a653012e538b55b589", func := "mudlark/mudlarklaw11.TicketQueue", spec := "ticketQueue", inPlace := ["sync/atomic.StoreUint64", "sync/atomic.LoadUint64", "sync/atomic.CompareAndSwapUint64", "sync/atomic.AddUint64"], unfollowed := true, recurses := true, named := ["mudlark/config.spans"], apart := false, laid := [("mudlark/config.spans", laid_mudlark_config_spans)] }
def TicketQueueSaid : Prop := ticketQueueRow.holds Tryd.pinned (OpenSpec.ofChange ticketQueueSpec)

/-- ITS FALSE NEIGHBOUR: 'it returns false'. Refute it at one input. -/
def ticketQueueWrong : ChangeSpec := { name := "ticketQueue", fn := fun _ => fun
  | [d1, d2, d3] => { results := [.lit (.bool false)], args := [d1, d2, d3] }
  | _ => none }
def TicketQueueWrongFalsely : Prop := ticketQueueRow.holds Tryd.pinned (OpenSpec.ofChange ticketQueueWrong)

/- THE SECOND FORM. 'bulk': how many values and letters a reading holds, each counted each time it is reached (what is shared counts as often as it is met; a slice's spare places count too). A statement '..UptoSaid' is the law's where the arguments, and the package variables that the reading takes, are together of bulk at most 1048576: NARROWER than '..Said'. Prove '..Said' where nothing that the law and all that it calls make is longer than what came in: it says more and counts as full. Else prove '..UptoSaid'. A law counts once. -/
mutual
def uptoBulk {H : Type} : DataW H → Nat
  | .lit (.string bytes) => bytes.length + 1
  | .lit _ => 1
  | .nil => 1
  | .ptr d => uptoBulk d + 1
  | .slice elems spare => uptoBulkAll elems + uptoBulkAll spare + 1
  | .agg parts => uptoBulkAll parts + 1
  | .iface _ d => uptoBulk d + 1
  | .map entries => uptoBulkEntries entries + 1
  | .held _ => 1
def uptoBulkAll {H : Type} : List (DataW H) → Nat
  | [] => 0
  | d :: r => uptoBulk d + uptoBulkAll r
def uptoBulkEntries {H : Type} : List (Lit × DataW H) → Nat
  | [] => 0
  | x :: r => uptoBulkEntry x + uptoBulkEntries r
def uptoBulkEntry {H : Type} : Lit × DataW H → Nat
  | (.string bytes, d) => bytes.length + uptoBulk d + 1
  | (_, d) => uptoBulk d + 1
 end
def uptoSmall : (H : Type) → List (DataW H) → Bool := fun _ ds => decide (uptoBulkAll ds ≤ 1048576)
def OpenSpec.upto (s : _root_.Go.ChangeSpec) : _root_.Go.OpenSpec := { _root_.Go.OpenSpec.ofChange s with cond := some uptoSmall }

/-- 'mudlarklaw11.TicketSteps', WHERE WHAT IT READS IS OF BULK AT MOST 1048576: true; the input reads as it did. -/
def ticketStepsUptoRow : OpenClaim := { program := "ytglmecdbafceoaadoor", sum := "0949e677db0e83ee8bae680fca116cacc7a2bf026a5f82a653012e538b55b589", func := "mudlark/mudlarklaw11.TicketSteps", spec := "ticketSteps", inPlace := ["sync/atomic.StoreUint64", "sync/atomic.LoadUint64", "sync/atomic.CompareAndSwapUint64", "sync/atomic.AddUint64"], named := ["mudlark/config.spans"], apart := false, laid := [("mudlark/config.spans", laid_mudlark_config_spans)], narrowed := true }
def TicketStepsUptoSaid : Prop := ticketStepsUptoRow.holds Tryd.pinned (OpenSpec.upto ticketStepsSpec)

/-- 'mudlarklaw11.TicketQueue', WHERE WHAT IT READS IS OF BULK AT MOST 1048576: true; the input reads as it did. -/
def ticketQueueUptoRow : OpenClaim := { program := "ytglmecdbafceoaadoor", sum := "0949e677db0e83ee8bae680fca116cacc7a2bf026a5f82a653012e538b55b589", func := "mudlark/mudlarklaw11.TicketQueue", spec := "ticketQueue", inPlace := ["sync/atomic.StoreUint64", "sync/atomic.LoadUint64", "sync/atomic.CompareAndSwapUint64", "sync/atomic.AddUint64"], unfollowed := true, recurses := true, named := ["mudlark/config.spans"], apart := false, laid := [("mudlark/config.spans", laid_mudlark_config_spans)], narrowed := true }
def TicketQueueUptoSaid : Prop := ticketQueueUptoRow.holds Tryd.pinned (OpenSpec.upto ticketQueueSpec)

end Rows
end Go.Proofs.YtglmecdbafceoaaDoor
