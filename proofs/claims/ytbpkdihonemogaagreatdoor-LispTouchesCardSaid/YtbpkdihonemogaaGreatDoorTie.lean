/-
  DERIVED. GIVEN WITH THE SEED: THE PROGRAM's TIES (one call each: nine closed facts by the kernel) AND EACH ROW's TIE, after the 31st guide's Derived/Test/Toyas{Tie, Card}.lean. No idea stands in it: it is a product of the set-up. Laid BY PROGRAM, IN A SANDBOX (cutbox-door.mjs). By AI agents, Wed Nov 11 2026. No macro, syntax, notation, axiom, sorry.
-/
import Derived.Test.YtbpkdihonemogaaGreatDoorRows
import Derived.LaidByTextLater
import Derived.SevenTiedAt
import Derived.LaidSub
import Derived.LaidOnce
namespace Go.Proofs.YtbpkdihonemogaaGreatDoor
open Go
set_option maxRecDepth 100000
theorem seatTie1 : Tryz.prog.laidByTextLater [("mudlark/config.spans", Rows.laid_mudlark_config_spans), ("mudlark/op.rows", Rows.laid_mudlark_op_rows)] [.data, .data] true :=
  Program.laidByTextLater_by_one 34 8 25 (by kernel_rfl) (by kernel_rfl) (by kernel_rfl) (by kernel_rfl) (by kernel_rfl) (by kernel_rfl) (fun _ _ => by kernel_rfl)
theorem noOwnUnsafe : Tryz.pinned.checked.prog.headLifts.contains "ownunsafe" = false := by kernel_rfl
theorem tie : Tryz.prog.laidByTextLater [("mudlark/config.spans", Rows.laid_mudlark_config_spans)] [.data] true :=
  Program.laidByTextLater.sub seatTie1 ["mudlark/config.spans"] (by kernel_rfl) (by kernel_rfl)
theorem lispHolds_row_tie : Rows.lispHoldsRow.laidByTextAt .later Tryz.pinned [.data] true :=
  OpenClaim.laidByTextAt_later rfl rfl tie noOwnUnsafe
theorem lispTouches_row_tie : Rows.lispTouchesRow.laidByTextAt .later Tryz.pinned [.data] true :=
  OpenClaim.laidByTextAt_later rfl rfl tie noOwnUnsafe
theorem tie2 : Tryz.prog.laidByTextLater [("mudlark/config.spans", Rows.laid_mudlark_config_spans), ("mudlark/op.rows", Rows.laid_mudlark_op_rows)] [.data, .data] true :=
  Program.laidByTextLater.sub seatTie1 ["mudlark/config.spans", "mudlark/op.rows"] (by kernel_rfl) (by kernel_rfl)
theorem lispAlone_row_tie : Rows.lispAloneRow.laidByTextAt .later Tryz.pinned [.data, .data] true :=
  OpenClaim.laidByTextAt_later rfl rfl tie2 noOwnUnsafe
theorem lispHoldsUpto_row_tie : Rows.lispHoldsUptoRow.laidByTextAt .later Tryz.pinned [.data] true :=
  OpenClaim.laidByTextAt_later rfl rfl tie noOwnUnsafe
theorem lispAloneUpto_row_tie : Rows.lispAloneUptoRow.laidByTextAt .later Tryz.pinned [.data, .data] true :=
  OpenClaim.laidByTextAt_later rfl rfl tie2 noOwnUnsafe
theorem lispTouchesUpto_row_tie : Rows.lispTouchesUptoRow.laidByTextAt .later Tryz.pinned [.data] true :=
  OpenClaim.laidByTextAt_later rfl rfl tie noOwnUnsafe
end Go.Proofs.YtbpkdihonemogaaGreatDoor
