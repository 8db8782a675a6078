/-
  NARROWER THAN 'FOR EVERY INPUT', by the rows' own cells (each row's printed sentence says how): WorldPicks: laid · WorldAccess: laid · WorldRuns: laid · WorldNotes: laid · WorldAlone: laid.
  DERIVED. THE GIVEN ROWS OF THIS SEAT. 5 by the template 'for every input the law returns true; each argument reads behind the call as it read before'; 0 by the template 'total and deterministic' (their statements: YtbpooljohjkbjaaGreatDoorTotals.lean).
  GIVEN WITH THE SEED: the statements are not yours to turn. If you find one false, say at which input.
  Laid BY PROGRAM, IN A SANDBOX (cutbox-rows.mjs): the forced cells as the released guide's own fill.sh prints them over the translation 0b0a7f1345ed5be6… (all of the seat's roots in one cut). By AI agents, Wed Nov 11 2026. No macro, syntax, notation, axiom, sorry.
-/
import Derived.Test.YtbpooljohjkbjaaGreatDoorChecked
import GoSem.Claim
import GoSem.ClaimJoined
import GoSem.ClaimMapViews
import Derived.JoinedTies
import Derived.KernelRfl
namespace Go.Proofs.YtbpooljohjkbjaaGreatDoor
/- THE CELL 'sum', in the pinned program and in every row, IS THE sha256 OF THE DUMP (.gsa) THAT YtbpooljohjkbjaaGreatDoorProg.lean LOADS. Nothing in Lean hashes anything: it is a label: what it is worth is what the hold of that sum in a sandbox is worth. -/
noncomputable def Tryz.pinned : Pinned := { name := "ytbpooljohjkbjaagreatdoor", sum := "0b0a7f1345ed5be641dae72a240dc5850986a8be3a0bc60c071294c33a28abbd", checked := Tryz.checked }
namespace Rows
def none {H : Type} : Left H := { results := [], args := [] }

/- WHAT THE LISTED PACKAGE-LEVEL VARIABLES READ AS WHEN THE CALL BEGINS. Each datum BY PROGRAM (the guide's laid-datum.mjs) off the statement by which the dump's own 'gosem.cut.vars' lays the variable. In a bare row this is a premise. The card (YtbpooljohjkbjaaGreatDoorCards.lean) ties it to the program's text. -/
def laid_mudlark_config_spans {H : Type} : DataW H := .agg [.agg [.lit (.string [99, 101, 108, 108, 115]), .lit (.int .i64 2), .lit (.int .i64 4096)], .agg [.lit (.string [109, 117, 116, 115]), .lit (.int .i64 1), .lit (.int .i64 63)], .agg [.lit (.string [114, 101, 103, 115]), .lit (.int .i64 1), .lit (.int .i64 64)], .agg [.lit (.string [103, 108, 111, 98, 115]), .lit (.int .i64 0), .lit (.int .i64 64)]]
def laid_mudlark_op_rows {H : Type} : DataW H := .agg [.agg [.lit (.string []), .lit (.string [])], .agg [.lit (.string [115, 101, 116]), .lit (.string [114, 107])], .agg [.lit (.string [109, 111, 118, 101]), .lit (.string [114, 114])], .agg [.lit (.string [99, 111, 110, 115]), .lit (.string [114, 114, 114])], .agg [.lit (.string [99, 97, 114]), .lit (.string [114, 114])], .agg [.lit (.string [99, 100, 114]), .lit (.string [114, 114])], .agg [.lit (.string [114, 112, 108, 97, 99, 97]), .lit (.string [114, 114])], .agg [.lit (.string [114, 112, 108, 97, 99, 100]), .lit (.string [114, 114])], .agg [.lit (.string [103, 101, 116]), .lit (.string [114, 103])], .agg [.lit (.string [112, 117, 116]), .lit (.string [103, 114])], .agg [.lit (.string [101, 113]), .lit (.string [114, 114])], .agg [.lit (.string [97, 116, 111, 109]), .lit (.string [114])]]

/-- 'mudlarklaw20.WorldPicks': WHATEVER THE INPUT: true; the input reads as it did. -/
def worldPicksSpec : ChangeSpec := { name := "worldPicks", fn := fun _ => fun
  | [d1, d2, d3] => { results := [.lit (.bool true)], args := [d1, d2, d3] }
  | _ => none }
def worldPicksRow : OpenClaim := { program := "ytbpooljohjkbjaagreatdoor", sum := "0b0a7f1345ed5be641dae72a240dc5850986a8be3a0bc60c071294c33a28abbd", func := "mudlark/mudlarklaw20.WorldPicks", spec := "worldPicks", inPlace := ["sync/atomic.StoreUint64", "sync/atomic.LoadUint64", "sync/atomic.CompareAndSwapUint64", "sync/atomic.AddUint64"], unfollowed := true, recurses := true, named := ["mudlark/config.spans", "mudlark/op.rows"], apart := false, laid := [("mudlark/config.spans", laid_mudlark_config_spans), ("mudlark/op.rows", laid_mudlark_op_rows)] }
def WorldPicksSaid : Prop := worldPicksRow.holds Tryz.pinned (OpenSpec.ofChange worldPicksSpec)

/-- ITS FALSE NEIGHBOUR: 'it returns false'. Refute it at one input. -/
def worldPicksWrong : ChangeSpec := { name := "worldPicks", fn := fun _ => fun
  | [d1, d2, d3] => { results := [.lit (.bool false)], args := [d1, d2, d3] }
  | _ => none }
def WorldPicksWrongFalsely : Prop := worldPicksRow.holds Tryz.pinned (OpenSpec.ofChange worldPicksWrong)

/-- 'mudlarklaw20.WorldAccess': WHATEVER THE INPUT: true; the input reads as it did. -/
def worldAccessSpec : ChangeSpec := { name := "worldAccess", fn := fun _ => fun
  | [d1, d2, d3] => { results := [.lit (.bool true)], args := [d1, d2, d3] }
  | _ => none }
def worldAccessRow : OpenClaim := { program := "ytbpooljohjkbjaagreatdoor", sum := "0b0a7f1345ed5be641dae72a240dc5850986a8be3a0bc60c071294c33a28abbd", func := "mudlark/mudlarklaw20.WorldAccess", spec := "worldAccess", inPlace := ["sync/atomic.StoreUint64", "sync/atomic.LoadUint64", "sync/atomic.CompareAndSwapUint64", "sync/atomic.AddUint64"], unfollowed := true, recurses := true, named := ["mudlark/config.spans", "mudlark/op.rows"], apart := false, laid := [("mudlark/config.spans", laid_mudlark_config_spans), ("mudlark/op.rows", laid_mudlark_op_rows)] }
def WorldAccessSaid : Prop := worldAccessRow.holds Tryz.pinned (OpenSpec.ofChange worldAccessSpec)

/-- ITS FALSE NEIGHBOUR: 'it returns false'. Refute it at one input. -/
def worldAccessWrong : ChangeSpec := { name := "worldAccess", fn := fun _ => fun
  | [d1, d2, d3] => { results := [.lit (.bool false)], args := [d1, d2, d3] }
  | _ => none }
def WorldAccessWrongFalsely : Prop := worldAccessRow.holds Tryz.pinned (OpenSpec.ofChange worldAccessWrong)

/-- 'mudlarklaw20.WorldRuns': WHATEVER THE INPUT: true; the input reads as it did. -/
def worldRunsSpec : ChangeSpec := { name := "worldRuns", fn := fun _ => fun
  | [d1, d2, d3] => { results := [.lit (.bool true)], args := [d1, d2, d3] }
  | _ => none }
def worldRunsRow : OpenClaim := { program := "ytbpooljohjkbjaagreatdoor", sum := "0b0a7f1345ed5be641dae72a240dc5850986a8be3a0bc60c071294c33a28abbd", func := "mudlark/mudlarklaw20.WorldRuns", spec := "worldRuns", inPlace := ["sync/atomic.StoreUint64", "sync/atomic.LoadUint64", "sync/atomic.CompareAndSwapUint64", "sync/atomic.AddUint64"], unfollowed := true, recurses := true, named := ["mudlark/config.spans", "mudlark/op.rows"], apart := false, laid := [("mudlark/config.spans", laid_mudlark_config_spans), ("mudlark/op.rows", laid_mudlark_op_rows)] }
def WorldRunsSaid : Prop := worldRunsRow.holds Tryz.pinned (OpenSpec.ofChange worldRunsSpec)

/-- ITS FALSE NEIGHBOUR: 'it returns false'. Refute it at one input. -/
def worldRunsWrong : ChangeSpec := { name := "worldRuns", fn := fun _ => fun
  | [d1, d2, d3] => { results := [.lit (.bool false)], args := [d1, d2, d3] }
  | _ => none }
def WorldRunsWrongFalsely : Prop := worldRunsRow.holds Tryz.pinned (OpenSpec.ofChange worldRunsWrong)

/-- 'mudlarklaw20.WorldNotes': WHATEVER THE INPUT: true; the input reads as it did. -/
def worldNotesSpec : ChangeSpec := { name := "worldNotes", fn := fun _ => fun
  | [d1, d2, d3] => { results := [.lit (.bool true)], args := [d1, d2, d3] }
  | _ => none }
def worldNotesRow : OpenClaim := { program := "ytbpooljohjkbjaagreatdoor", sum := "0b0a7f1345ed5be641dae72a240dc5850986a8be3a0bc60c071294c33a28abbd", func := "mudlark/mudlarklaw20.WorldNotes", spec := "worldNotes", inPlace := ["sync/atomic.StoreUint64", "sync/atomic.LoadUint64", "sync/atomic.CompareAndSwapUint64", "sync/atomic.AddUint64"], unfollowed := true, recurses := true, named := ["mudlark/config.spans", "mudlark/op.rows"], apart := false, laid := [("mudlark/config.spans", laid_mudlark_config_spans), ("mudlark/op.rows", laid_mudlark_op_rows)] }
def WorldNotesSaid : Prop := worldNotesRow.holds Tryz.pinned (OpenSpec.ofChange worldNotesSpec)

/-- ITS FALSE NEIGHBOUR: 'it returns false'. Refute it at one input. -/
def worldNotesWrong : ChangeSpec := { name := "worldNotes", fn := fun _ => fun
  | [d1, d2, d3] => { results := [.lit (.bool false)], args := [d1, d2, d3] }
  | _ => none }
def WorldNotesWrongFalsely : Prop := worldNotesRow.holds Tryz.pinned (OpenSpec.ofChange worldNotesWrong)

/-- 'mudlarklaw20.WorldAlone': WHATEVER THE INPUT: true; the input reads as it did. -/
def worldAloneSpec : ChangeSpec := { name := "worldAlone", fn := fun _ => fun
  | [d1, d2, d3] => { results := [.lit (.bool true)], args := [d1, d2, d3] }
  | _ => none }
def worldAloneRow : OpenClaim := { program := "ytbpooljohjkbjaagreatdoor", sum := "0b0a7f1345ed5be641dae72a240dc5850986a8be3a0bc60c071294c33a28abbd", func := "mudlark/mudlarklaw20.WorldAlone", spec := "worldAlone", inPlace := ["sync/atomic.StoreUint64", "sync/atomic.LoadUint64", "sync/atomic.CompareAndSwapUint64", "sync/atomic.AddUint64"], unfollowed := true, recurses := true, named := ["mudlark/config.spans", "mudlark/op.rows"], apart := false, laid := [("mudlark/config.spans", laid_mudlark_config_spans), ("mudlark/op.rows", laid_mudlark_op_rows)] }
def WorldAloneSaid : Prop := worldAloneRow.holds Tryz.pinned (OpenSpec.ofChange worldAloneSpec)

/-- ITS FALSE NEIGHBOUR: 'it returns false'. Refute it at one input. -/
def worldAloneWrong : ChangeSpec := { name := "worldAlone", fn := fun _ => fun
  | [d1, d2, d3] => { results := [.lit (.bool false)], args := [d1, d2, d3] }
  | _ => none }
def WorldAloneWrongFalsely : Prop := worldAloneRow.holds Tryz.pinned (OpenSpec.ofChange worldAloneWrong)

/- THE SECOND FORM. 'bulk': how many values and letters a reading holds, each counted each time it is reached (what is shared counts as often as it is met; a slice's spare places count too). A statement '..UptoSaid' is the law's where the arguments, and the package variables that the reading takes, are together of bulk at most 1048576: NARROWER than '..Said'. Prove '..Said' where nothing that the law and all that it calls make is longer than what came in: it says more and counts as full. Else prove '..UptoSaid'. A law counts once. -/
mutual
def uptoBulk {H : Type} : DataW H → Nat
  | .lit (.string bytes) => bytes.length + 1
  | .lit _ => 1
  | .nil => 1
  | .ptr d => uptoBulk d + 1
  | .slice elems spare => uptoBulkAll elems + uptoBulkAll spare + 1
  | .agg parts => uptoBulkAll parts + 1
  | .iface _ d => uptoBulk d + 1
  | .map entries => uptoBulkEntries entries + 1
  | .held _ => 1
def uptoBulkAll {H : Type} : List (DataW H) → Nat
  | [] => 0
  | d :: r => uptoBulk d + uptoBulkAll r
def uptoBulkEntries {H : Type} : List (Lit × DataW H) → Nat
  | [] => 0
  | x :: r => uptoBulkEntry x + uptoBulkEntries r
def uptoBulkEntry {H : Type} : Lit × DataW H → Nat
  | (.string bytes, d) => bytes.length + uptoBulk d + 1
  | (_, d) => uptoBulk d + 1
 end
def uptoSmall : (H : Type) → List (DataW H) → Bool := fun _ ds => decide (uptoBulkAll ds ≤ 1048576)
def OpenSpec.upto (s : _root_.Go.ChangeSpec) : _root_.Go.OpenSpec := { _root_.Go.OpenSpec.ofChange s with cond := some uptoSmall }

/-- 'mudlarklaw20.WorldPicks', WHERE WHAT IT READS IS OF BULK AT MOST 1048576: true; the input reads as it did. -/
def worldPicksUptoRow : OpenClaim := { program := "ytbpooljohjkbjaagreatdoor", sum := "0b0a7f1345ed5be641dae72a240dc5850986a8be3a0bc60c071294c33a28abbd", func := "mudlark/mudlarklaw20.WorldPicks", spec := "worldPicks", inPlace := ["sync/atomic.StoreUint64", "sync/atomic.LoadUint64", "sync/atomic.CompareAndSwapUint64", "sync/atomic.AddUint64"], unfollowed := true, recurses := true, named := ["mudlark/config.spans", "mudlark/op.rows"], apart := false, laid := [("mudlark/config.spans", laid_mudlark_config_spans), ("mudlark/op.rows", laid_mudlark_op_rows)], narrowed := true }
def WorldPicksUptoSaid : Prop := worldPicksUptoRow.holds Tryz.pinned (OpenSpec.upto worldPicksSpec)

/-- 'mudlarklaw20.WorldAccess', WHERE WHAT IT READS IS OF BULK AT MOST 1048576: true; the input reads as it did. -/
def worldAccessUptoRow : OpenClaim := { program := "ytbpooljohjkbjaagreatdoor", sum := "0b0a7f1345ed5be641dae72a240dc5850986a8be3a0bc60c071294c33a28abbd", func := "mudlark/mudlarklaw20.WorldAccess", spec := "worldAccess", inPlace := ["sync/atomic.StoreUint64", "sync/atomic.LoadUint64", "sync/atomic.CompareAndSwapUint64", "sync/atomic.AddUint64"], unfollowed := true, recurses := true, named := ["mudlark/config.spans", "mudlark/op.rows"], apart := false, laid := [("mudlark/config.spans", laid_mudlark_config_spans), ("mudlark/op.rows", laid_mudlark_op_rows)], narrowed := true }
def WorldAccessUptoSaid : Prop := worldAccessUptoRow.holds Tryz.pinned (OpenSpec.upto worldAccessSpec)

/-- 'mudlarklaw20.WorldRuns', WHERE WHAT IT READS IS OF BULK AT MOST 1048576: true; the input reads as it did. -/
def worldRunsUptoRow : OpenClaim := { program := "ytbpooljohjkbjaagreatdoor", sum := "0b0a7f1345ed5be641dae72a240dc5850986a8be3a0bc60c071294c33a28abbd", func := "mudlark/mudlarklaw20.WorldRuns", spec := "worldRuns", inPlace := ["sync/atomic.StoreUint64", "sync/atomic.LoadUint64", "sync/atomic.CompareAndSwapUint64", "sync/atomic.AddUint64"], unfollowed := true, recurses := true, named := ["mudlark/config.spans", "mudlark/op.rows"], apart := false, laid := [("mudlark/config.spans", laid_mudlark_config_spans), ("mudlark/op.rows", laid_mudlark_op_rows)], narrowed := true }
def WorldRunsUptoSaid : Prop := worldRunsUptoRow.holds Tryz.pinned (OpenSpec.upto worldRunsSpec)

/-- 'mudlarklaw20.WorldNotes', WHERE WHAT IT READS IS OF BULK AT MOST 1048576: true; the input reads as it did. -/
def worldNotesUptoRow : OpenClaim := { program := "ytbpooljohjkbjaagreatdoor", sum := "0b0a7f1345ed5be641dae72a240dc5850986a8be3a0bc60c071294c33a28abbd", func := "mudlark/mudlarklaw20.WorldNotes", spec := "worldNotes", inPlace := ["sync/atomic.StoreUint64", "sync/atomic.LoadUint64", "sync/atomic.CompareAndSwapUint64", "sync/atomic.AddUint64"], unfollowed := true, recurses := true, named := ["mudlark/config.spans", "mudlark/op.rows"], apart := false, laid := [("mudlark/config.spans", laid_mudlark_config_spans), ("mudlark/op.rows", laid_mudlark_op_rows)], narrowed := true }
def WorldNotesUptoSaid : Prop := worldNotesUptoRow.holds Tryz.pinned (OpenSpec.upto worldNotesSpec)

/-- 'mudlarklaw20.WorldAlone', WHERE WHAT IT READS IS OF BULK AT MOST 1048576: true; the input reads as it did. -/
def worldAloneUptoRow : OpenClaim := { program := "ytbpooljohjkbjaagreatdoor", sum := "0b0a7f1345ed5be641dae72a240dc5850986a8be3a0bc60c071294c33a28abbd", func := "mudlark/mudlarklaw20.WorldAlone", spec := "worldAlone", inPlace := ["sync/atomic.StoreUint64", "sync/atomic.LoadUint64", "sync/atomic.CompareAndSwapUint64", "sync/atomic.AddUint64"], unfollowed := true, recurses := true, named := ["mudlark/config.spans", "mudlark/op.rows"], apart := false, laid := [("mudlark/config.spans", laid_mudlark_config_spans), ("mudlark/op.rows", laid_mudlark_op_rows)], narrowed := true }
def WorldAloneUptoSaid : Prop := worldAloneUptoRow.holds Tryz.pinned (OpenSpec.upto worldAloneSpec)

end Rows
end Go.Proofs.YtbpooljohjkbjaaGreatDoor
