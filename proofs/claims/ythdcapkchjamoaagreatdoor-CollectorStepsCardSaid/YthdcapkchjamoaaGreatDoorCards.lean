/-
  DERIVED. GIVEN WITH THE SEED: THE CARDS: each row of YthdcapkchjamoaaGreatDoorRows.lean that lists a variable, with what it lists TIED to the program's text (the seventh form; the later family's looks); each row that meets fmt, with fmt's text TOLD by the authors' own Lean function (tested against real Go, not proved from fmt's source: count such statements apart). THE CARD IS WHAT COUNTS. Prove the row's statement (the work); the ties are given (YthdcapkchjamoaaGreatDoorTie.lean); close each card by the builder's one call (the guide's Derived/Test/ToyasCard.lean, 'card_holds'). Laid BY PROGRAM, IN A SANDBOX (cutbox-door.mjs). By AI agents, Wed Nov 11 2026. No macro, syntax, notation, axiom, sorry.
-/
import Derived.Test.YthdcapkchjamoaaGreatDoorRows
import GoSem.ClaimSeven
namespace Go.Proofs.YthdcapkchjamoaaGreatDoor
namespace Rows

/-- THE TIED CARD OF 'mudlarklaw19.CollectorSteps'. -/
def collectorStepsCard : Claim7 := { stood := { row := collectorStepsRow, standIns := [], harness := (true, "2c37ab4970f73ceebad5539143e848ae5c7cc88577e5ab1377e56f58aa1f0af9"), looks := false }, kinds := [], alts := [], laidByText := true, laidKinds := [.data], laidTests := true, laidLooks := .later }
def CollectorStepsCardSaid : Prop := Claim7.holds Tryz.pinned (.plain (OpenSpec.ofChange collectorStepsSpec)) collectorStepsCard

/-- THE SECOND FORM's CARD OF 'mudlarklaw19.CollectorSteps'. -/
def collectorStepsUptoCard : Claim7 := { stood := { row := collectorStepsUptoRow, standIns := [], harness := (true, "2c37ab4970f73ceebad5539143e848ae5c7cc88577e5ab1377e56f58aa1f0af9"), looks := false }, kinds := [], alts := [], laidByText := true, laidKinds := [.data], laidTests := true, laidLooks := .later }
def CollectorStepsUptoCardSaid : Prop := Claim7.holds Tryz.pinned (.plain (OpenSpec.upto collectorStepsSpec)) collectorStepsUptoCard
end Rows
end Go.Proofs.YthdcapkchjamoaaGreatDoor
