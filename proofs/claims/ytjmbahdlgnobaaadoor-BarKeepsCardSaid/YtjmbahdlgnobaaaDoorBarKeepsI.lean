/- BarKeeps: the pieces of its loop. -/
import Derived.Test.YtjmbahdlgnobaaaDoorM4
import Derived.Test.YtjmbahdlgnobaaaDoorBarKeepsA
import Derived.Test.YtjmbahdlgnobaaaDoorShutPure
import Derived.Test.YtjmbahdlgnobaaaDoorBytes
import Derived.Test.YtjmbahdlgnobaaaDoorHandNew
import Derived.Deep.CutRange
import Derived.Deep.CutBlock
namespace Go.Proofs.YtjmbahdlgnobaaaDoor
open Go Go.RowKit
set_option maxRecDepth 100000
attribute [local go_sem ↓] Go.wp_at_zero Go.wp_at_succ

/-- The loop's 'if' whose test lies in slot n. -/
def findIf (n : Nat) : Code → Option Code
  | .cond (.tmp m) a b => if m = n then some (.cond (.tmp m) a b) else (match findIf n a with | some c => some c | none => findIf n b)
  | .cond _ a b => (match findIf n a with | some c => some c | none => findIf n b)
  | .seq a b => (match findIf n a with | some c => some c | none => findIf n b)
  | .block _ c => findIf n c
  | .loop c => findIf n c
  | .scope c => findIf n c
  | _ => none
/-- The block of number n. -/
def findBlk (n : Nat) : Code → Option Code
  | .block m c => if m = n then some (.block m c) else findBlk n c
  | .cond _ a b => (match findBlk n a with | some c => some c | none => findBlk n b)
  | .seq a b => (match findBlk n a with | some c => some c | none => findBlk n b)
  | .loop c => findBlk n c
  | .scope c => findBlk n c
  | _ => none
noncomputable def bkIf : Code := ((Tryd.f4.body.bind (findIf 74)).getD .skip)
noncomputable def bkBlk : Code := ((Tryd.f4.body.bind (findBlk 4)).getD .skip)
end Go.Proofs.YtjmbahdlgnobaaaDoor
