/-
  DERIVED. GIVEN WITH THE SEED: THE CARDS: each row of YtgjbabndpmkccaaDoorRows.lean that lists a variable, with what it lists TIED to the program's text (the seventh form; the later family's looks); each row that meets fmt, with fmt's text TOLD by the authors' own Lean function (tested against real Go, not proved from fmt's source: count such statements apart). THE CARD IS WHAT COUNTS. Prove the row's statement (the work); the ties are given (YtgjbabndpmkccaaDoorTie.lean); close each card by the builder's one call (the guide's Derived/Test/ToyasCard.lean, 'card_holds'). Laid BY PROGRAM, IN A SANDBOX (cutbox-door.mjs). By AI agents, Wed Nov 11 2026. No macro, syntax, notation, axiom, sorry.
-/
import Derived.Test.YtgjbabndpmkccaaDoorRows
import GoSem.ClaimSeven
namespace Go.Proofs.YtgjbabndpmkccaaDoor
namespace Rows

/-- THE TIED CARD OF 'mudlarklaw13.PopSteps'. -/
def popStepsCard : Claim7 := { stood := { row := popStepsRow, standIns := [], harness := (true, "9c440c84a1aa4f8e6ba125c454fa633fca1f9ced4f0e6e0aeb197e733d656566"), looks := false }, kinds := [], alts := [], laidByText := true, laidKinds := [.data], laidTests := true, laidLooks := .later }
def PopStepsCardSaid : Prop := Claim7.holds Tryd.pinned (.plain (OpenSpec.ofChange popStepsSpec)) popStepsCard

/-- THE TIED CARD OF 'mudlarklaw13.PopLists'. -/
def popListsCard : Claim7 := { stood := { row := popListsRow, standIns := [], harness := (true, "9c440c84a1aa4f8e6ba125c454fa633fca1f9ced4f0e6e0aeb197e733d656566"), looks := false }, kinds := [], alts := [], laidByText := true, laidKinds := [.data], laidTests := true, laidLooks := .later }
def PopListsCardSaid : Prop := Claim7.holds Tryd.pinned (.plain (OpenSpec.ofChange popListsSpec)) popListsCard

/-- THE TIED CARD OF 'mudlarklaw13.PopTakes'. -/
def popTakesCard : Claim7 := { stood := { row := popTakesRow, standIns := [], harness := (true, "9c440c84a1aa4f8e6ba125c454fa633fca1f9ced4f0e6e0aeb197e733d656566"), looks := false }, kinds := [], alts := [], laidByText := true, laidKinds := [.data], laidTests := true, laidLooks := .later }
def PopTakesCardSaid : Prop := Claim7.holds Tryd.pinned (.plain (OpenSpec.ofChange popTakesSpec)) popTakesCard

/-- THE TIED CARD OF 'mudlarklaw13.PopDrains'. -/
def popDrainsCard : Claim7 := { stood := { row := popDrainsRow, standIns := [], harness := (true, "9c440c84a1aa4f8e6ba125c454fa633fca1f9ced4f0e6e0aeb197e733d656566"), looks := false }, kinds := [], alts := [], laidByText := true, laidKinds := [.data], laidTests := true, laidLooks := .later }
def PopDrainsCardSaid : Prop := Claim7.holds Tryd.pinned (.plain (OpenSpec.ofChange popDrainsSpec)) popDrainsCard

/-- THE SECOND FORM's CARD OF 'mudlarklaw13.PopSteps'. -/
def popStepsUptoCard : Claim7 := { stood := { row := popStepsUptoRow, standIns := [], harness := (true, "9c440c84a1aa4f8e6ba125c454fa633fca1f9ced4f0e6e0aeb197e733d656566"), looks := false }, kinds := [], alts := [], laidByText := true, laidKinds := [.data], laidTests := true, laidLooks := .later }
def PopStepsUptoCardSaid : Prop := Claim7.holds Tryd.pinned (.plain (OpenSpec.upto popStepsSpec)) popStepsUptoCard

/-- THE SECOND FORM's CARD OF 'mudlarklaw13.PopLists'. -/
def popListsUptoCard : Claim7 := { stood := { row := popListsUptoRow, standIns := [], harness := (true, "9c440c84a1aa4f8e6ba125c454fa633fca1f9ced4f0e6e0aeb197e733d656566"), looks := false }, kinds := [], alts := [], laidByText := true, laidKinds := [.data], laidTests := true, laidLooks := .later }
def PopListsUptoCardSaid : Prop := Claim7.holds Tryd.pinned (.plain (OpenSpec.upto popListsSpec)) popListsUptoCard

/-- THE SECOND FORM's CARD OF 'mudlarklaw13.PopTakes'. -/
def popTakesUptoCard : Claim7 := { stood := { row := popTakesUptoRow, standIns := [], harness := (true, "9c440c84a1aa4f8e6ba125c454fa633fca1f9ced4f0e6e0aeb197e733d656566"), looks := false }, kinds := [], alts := [], laidByText := true, laidKinds := [.data], laidTests := true, laidLooks := .later }
def PopTakesUptoCardSaid : Prop := Claim7.holds Tryd.pinned (.plain (OpenSpec.upto popTakesSpec)) popTakesUptoCard

/-- THE SECOND FORM's CARD OF 'mudlarklaw13.PopDrains'. -/
def popDrainsUptoCard : Claim7 := { stood := { row := popDrainsUptoRow, standIns := [], harness := (true, "9c440c84a1aa4f8e6ba125c454fa633fca1f9ced4f0e6e0aeb197e733d656566"), looks := false }, kinds := [], alts := [], laidByText := true, laidKinds := [.data], laidTests := true, laidLooks := .later }
def PopDrainsUptoCardSaid : Prop := Claim7.holds Tryd.pinned (.plain (OpenSpec.upto popDrainsSpec)) popDrainsUptoCard
end Rows
end Go.Proofs.YtgjbabndpmkccaaDoor
