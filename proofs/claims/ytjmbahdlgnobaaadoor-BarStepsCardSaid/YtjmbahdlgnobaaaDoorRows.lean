/-
  NARROWER THAN 'FOR EVERY INPUT', by the rows' own cells (each row's printed sentence says how): BarSteps: laid · BarKeeps: laid · BarOpens: laid · BarDirty: laid.
  DERIVED. THE GIVEN ROWS OF THIS SEAT. 4 by the template 'for every input the law returns true; each argument reads behind the call as it read before'; 0 by the template 'total and deterministic' (their statements: YtjmbahdlgnobaaaDoorTotals.lean).
  GIVEN WITH THE SEED: the statements are not yours to turn. If you find one false, say at which input.
  Laid BY PROGRAM, IN A SANDBOX (cutbox-rows.mjs): the forced cells as the released guide's own fill.sh prints them over the translation c984adbc668ae1a6… (all of the seat's roots in one cut). By AI agents, Wed Nov 11 2026. No macro, syntax, notation, axiom, sorry.
-/
import Derived.Test.YtjmbahdlgnobaaaDoorChecked
import GoSem.Claim
import GoSem.ClaimJoined
import GoSem.ClaimMapViews
import Derived.JoinedTies
import Derived.KernelRfl
namespace Go.Proofs.YtjmbahdlgnobaaaDoor
/- THE CELL 'sum', in the pinned program and in every row, IS THE sha256 OF THE DUMP (.gsa) THAT YtjmbahdlgnobaaaDoorProg.lean LOADS. Nothing in Lean hashes anything: it is a label: what it is worth is what the hold of that sum in a sandbox is worth. -/
noncomputable def Tryd.pinned : Pinned := { name := "ytjmbahdlgnobaaadoor", sum := "c984adbc668ae1a6d05668b8803d37debf03aa2b5c46ae60c5e99eb0df2b1925", checked := Tryd.checked }
namespace Rows
def none {H : Type} : Left H := { results := [], args := [] }

/- WHAT THE LISTED PACKAGE-LEVEL VARIABLES READ AS WHEN THE CALL BEGINS. Each datum BY PROGRAM (the guide's laid-datum.mjs) off the statement by which the dump's own 'gosem.cut.vars' lays the variable. In a bare row this is a premise. The card (YtjmbahdlgnobaaaDoorCards.lean) ties it to the program's text. -/
def laid_mudlark_config_spans {H : Type} : DataW H := .agg [.agg [.lit (.string [99, 101, 108, 108, 115]), .lit (.int .i64 2), .lit (.int .i64 4096)], .agg [.lit (.string [109, 117, 116, 115]), .lit (.int .i64 1), .lit (.int .i64 63)], .agg [.lit (.string [114, 101, 103, 115]), .lit (.int .i64 1), .lit (.int .i64 64)], .agg [.lit (.string [103, 108, 111, 98, 115]), .lit (.int .i64 0), .lit (.int .i64 64)]]

/-- 'mudlarklaw17.BarSteps': WHATEVER THE INPUT: true; the input reads as it did. -/
def barStepsSpec : ChangeSpec := { name := "barSteps", fn := fun _ => fun
  | [d1, d2, d3] => { results := [.lit (.bool true)], args := [d1, d2, d3] }
  | _ => none }
def barStepsRow : OpenClaim := { program := "ytjmbahdlgnobaaadoor", sum := "c984adbc668ae1a6d05668b8803d37debf03aa2b5c46ae60c5e99eb0df2b1925", func := "mudlark/mudlarklaw17.BarSteps", spec := "barSteps", inPlace := ["sync/atomic.StoreUint64", "sync/atomic.LoadUint64", "sync/atomic.CompareAndSwapUint64", "sync/atomic.AddUint64"], unfollowed := true, recurses := true, named := ["mudlark/config.spans"], apart := false, laid := [("mudlark/config.spans", laid_mudlark_config_spans)] }
def BarStepsSaid : Prop := barStepsRow.holds Tryd.pinned (OpenSpec.ofChange barStepsSpec)

/-- ITS FALSE NEIGHBOUR: 'it returns false'. Refute it at one input. -/
def barStepsWrong : ChangeSpec := { name := "barSteps", fn := fun _ => fun
  | [d1, d2, d3] => { results := [.lit (.bool false)], args := [d1, d2, d3] }
  | _ => none }
def BarStepsWrongFalsely : Prop := barStepsRow.holds Tryd.pinned (OpenSpec.ofChange barStepsWrong)

/-- 'mudlarklaw17.BarKeeps': WHATEVER THE INPUT: true; the input reads as it did. -/
def barKeepsSpec : ChangeSpec := { name := "barKeeps", fn := fun _ => fun
  | [d1, d2, d3] => { results := [.lit (.bool true)], args := [d1, d2, d3] }
  | _ => none }
def barKeepsRow : OpenClaim := { program := "ytjmbahdlgnobaaadoor", sum := "c984adbc668ae1a6d05668b8803d37debf03aa2b5c46ae60c5e99eb0df2b1925", func := "mudlark/mudlarklaw17.BarKeeps", spec := "barKeeps", inPlace := ["sync/atomic.StoreUint64", "sync/atomic.LoadUint64", "sync/atomic.CompareAndSwapUint64", "sync/atomic.AddUint64"], unfollowed := true, recurses := true, named := ["mudlark/config.spans"], apart := false, laid := [("mudlark/config.spans", laid_mudlark_config_spans)] }
def BarKeepsSaid : Prop := barKeepsRow.holds Tryd.pinned (OpenSpec.ofChange barKeepsSpec)

/-- ITS FALSE NEIGHBOUR: 'it returns false'. Refute it at one input. -/
def barKeepsWrong : ChangeSpec := { name := "barKeeps", fn := fun _ => fun
  | [d1, d2, d3] => { results := [.lit (.bool false)], args := [d1, d2, d3] }
  | _ => none }
def BarKeepsWrongFalsely : Prop := barKeepsRow.holds Tryd.pinned (OpenSpec.ofChange barKeepsWrong)

/-- 'mudlarklaw17.BarOpens': WHATEVER THE INPUT: true; the input reads as it did. -/
def barOpensSpec : ChangeSpec := { name := "barOpens", fn := fun _ => fun
  | [d1, d2] => { results := [.lit (.bool true)], args := [d1, d2] }
  | _ => none }
def barOpensRow : OpenClaim := { program := "ytjmbahdlgnobaaadoor", sum := "c984adbc668ae1a6d05668b8803d37debf03aa2b5c46ae60c5e99eb0df2b1925", func := "mudlark/mudlarklaw17.BarOpens", spec := "barOpens", inPlace := ["sync/atomic.StoreUint64", "sync/atomic.LoadUint64", "sync/atomic.CompareAndSwapUint64", "sync/atomic.AddUint64"], unfollowed := true, recurses := true, named := ["mudlark/config.spans"], apart := false, laid := [("mudlark/config.spans", laid_mudlark_config_spans)] }
def BarOpensSaid : Prop := barOpensRow.holds Tryd.pinned (OpenSpec.ofChange barOpensSpec)

/-- ITS FALSE NEIGHBOUR: 'it returns false'. Refute it at one input. -/
def barOpensWrong : ChangeSpec := { name := "barOpens", fn := fun _ => fun
  | [d1, d2] => { results := [.lit (.bool false)], args := [d1, d2] }
  | _ => none }
def BarOpensWrongFalsely : Prop := barOpensRow.holds Tryd.pinned (OpenSpec.ofChange barOpensWrong)

/-- 'mudlarklaw17.BarDirty': WHATEVER THE INPUT: true; the input reads as it did. -/
def barDirtySpec : ChangeSpec := { name := "barDirty", fn := fun _ => fun
  | [d1, d2] => { results := [.lit (.bool true)], args := [d1, d2] }
  | _ => none }
def barDirtyRow : OpenClaim := { program := "ytjmbahdlgnobaaadoor", sum := "c984adbc668ae1a6d05668b8803d37debf03aa2b5c46ae60c5e99eb0df2b1925", func := "mudlark/mudlarklaw17.BarDirty", spec := "barDirty", inPlace := ["sync/atomic.StoreUint64", "sync/atomic.LoadUint64", "sync/atomic.CompareAndSwapUint64", "sync/atomic.AddUint64"], unfollowed := true, recurses := true, named := ["mudlark/config.spans"], apart := false, laid := [("mudlark/config.spans", laid_mudlark_config_spans)] }
def BarDirtySaid : Prop := barDirtyRow.holds Tryd.pinned (OpenSpec.ofChange barDirtySpec)

/-- ITS FALSE NEIGHBOUR: 'it returns false'. Refute it at one input. -/
def barDirtyWrong : ChangeSpec := { name := "barDirty", fn := fun _ => fun
  | [d1, d2] => { results := [.lit (.bool false)], args := [d1, d2] }
  | _ => none }
def BarDirtyWrongFalsely : Prop := barDirtyRow.holds Tryd.pinned (OpenSpec.ofChange barDirtyWrong)

/- THE SECOND FORM. 'bulk': how many values and letters a reading holds, each counted each time it is reached (what is shared counts as often as it is met; a slice's spare places count too). A statement '..UptoSaid' is the law's where the arguments, and the package variables that the reading takes, are together of bulk at most 1048576: NARROWER than '..Said'. Prove '..Said' where nothing that the law and all that it calls make is longer than what came in: it says more and counts as full. Else prove '..UptoSaid'. A law counts once. -/
mutual
def uptoBulk {H : Type} : DataW H → Nat
  | .lit (.string bytes) => bytes.length + 1
  | .lit _ => 1
  | .nil => 1
  | .ptr d => uptoBulk d + 1
  | .slice elems spare => uptoBulkAll elems + uptoBulkAll spare + 1
  | .agg parts => uptoBulkAll parts + 1
  | .iface _ d => uptoBulk d + 1
  | .map entries => uptoBulkEntries entries + 1
  | .held _ => 1
def uptoBulkAll {H : Type} : List (DataW H) → Nat
  | [] => 0
  | d :: r => uptoBulk d + uptoBulkAll r
def uptoBulkEntries {H : Type} : List (Lit × DataW H) → Nat
  | [] => 0
  | x :: r => uptoBulkEntry x + uptoBulkEntries r
def uptoBulkEntry {H : Type} : Lit × DataW H → Nat
  | (.string bytes, d) => bytes.length + uptoBulk d + 1
  | (_, d) => uptoBulk d + 1
 end
def uptoSmall : (H : Type) → List (DataW H) → Bool := fun _ ds => decide (uptoBulkAll ds ≤ 1048576)
def OpenSpec.upto (s : _root_.Go.ChangeSpec) : _root_.Go.OpenSpec := { _root_.Go.OpenSpec.ofChange s with cond := some uptoSmall }

/-- 'mudlarklaw17.BarSteps', WHERE WHAT IT READS IS OF BULK AT MOST 1048576: true; the input reads as it did. -/
def barStepsUptoRow : OpenClaim := { program := "ytjmbahdlgnobaaadoor", sum := "c984adbc668ae1a6d05668b8803d37debf03aa2b5c46ae60c5e99eb0df2b1925", func := "mudlark/mudlarklaw17.BarSteps", spec := "barSteps", inPlace := ["sync/atomic.StoreUint64", "sync/atomic.LoadUint64", "sync/atomic.CompareAndSwapUint64", "sync/atomic.AddUint64"], unfollowed := true, recurses := true, named := ["mudlark/config.spans"], apart := false, laid := [("mudlark/config.spans", laid_mudlark_config_spans)], narrowed := true }
def BarStepsUptoSaid : Prop := barStepsUptoRow.holds Tryd.pinned (OpenSpec.upto barStepsSpec)

/-- 'mudlarklaw17.BarKeeps', WHERE WHAT IT READS IS OF BULK AT MOST 1048576: true; the input reads as it did. -/
def barKeepsUptoRow : OpenClaim := { program := "ytjmbahdlgnobaaadoor", sum := "c984adbc668ae1a6d05668b8803d37debf03aa2b5c46ae60c5e99eb0df2b1925", func := "mudlark/mudlarklaw17.BarKeeps", spec := "barKeeps", inPlace := ["sync/atomic.StoreUint64", "sync/atomic.LoadUint64", "sync/atomic.CompareAndSwapUint64", "sync/atomic.AddUint64"], unfollowed := true, recurses := true, named := ["mudlark/config.spans"], apart := false, laid := [("mudlark/config.spans", laid_mudlark_config_spans)], narrowed := true }
def BarKeepsUptoSaid : Prop := barKeepsUptoRow.holds Tryd.pinned (OpenSpec.upto barKeepsSpec)

/-- 'mudlarklaw17.BarOpens', WHERE WHAT IT READS IS OF BULK AT MOST 1048576: true; the input reads as it did. -/
def barOpensUptoRow : OpenClaim := { program := "ytjmbahdlgnobaaadoor", sum := "c984adbc668ae1a6d05668b8803d37debf03aa2b5c46ae60c5e99eb0df2b1925", func := "mudlark/mudlarklaw17.BarOpens", spec := "barOpens", inPlace := ["sync/atomic.StoreUint64", "sync/atomic.LoadUint64", "sync/atomic.CompareAndSwapUint64", "sync/atomic.AddUint64"], unfollowed := true, recurses := true, named := ["mudlark/config.spans"], apart := false, laid := [("mudlark/config.spans", laid_mudlark_config_spans)], narrowed := true }
def BarOpensUptoSaid : Prop := barOpensUptoRow.holds Tryd.pinned (OpenSpec.upto barOpensSpec)

/-- 'mudlarklaw17.BarDirty', WHERE WHAT IT READS IS OF BULK AT MOST 1048576: true; the input reads as it did. -/
def barDirtyUptoRow : OpenClaim := { program := "ytjmbahdlgnobaaadoor", sum := "c984adbc668ae1a6d05668b8803d37debf03aa2b5c46ae60c5e99eb0df2b1925", func := "mudlark/mudlarklaw17.BarDirty", spec := "barDirty", inPlace := ["sync/atomic.StoreUint64", "sync/atomic.LoadUint64", "sync/atomic.CompareAndSwapUint64", "sync/atomic.AddUint64"], unfollowed := true, recurses := true, named := ["mudlark/config.spans"], apart := false, laid := [("mudlark/config.spans", laid_mudlark_config_spans)], narrowed := true }
def BarDirtyUptoSaid : Prop := barDirtyUptoRow.holds Tryd.pinned (OpenSpec.upto barDirtySpec)

end Rows
end Go.Proofs.YtjmbahdlgnobaaaDoor
