/-
  DERIVED. GIVEN WITH THE SEED: THE CARDS: each row of YthdcapkchjamoaaDoorRows.lean that lists a variable, with what it lists TIED to the program's text (the seventh form; the later family's looks); each row that meets fmt, with fmt's text TOLD by the authors' own Lean function (tested against real Go, not proved from fmt's source: count such statements apart). THE CARD IS WHAT COUNTS. Prove the row's statement (the work); the ties are given (YthdcapkchjamoaaDoorTie.lean); close each card by the builder's one call (the guide's Derived/Test/ToyasCard.lean, 'card_holds'). Laid BY PROGRAM, IN A SANDBOX (cutbox-door.mjs). By AI agents, Wed Nov 11 2026. No macro, syntax, notation, axiom, sorry.
-/
import Derived.Test.YthdcapkchjamoaaDoorRows
import GoSem.ClaimSeven
namespace Go.Proofs.YthdcapkchjamoaaDoor
namespace Rows

/-- THE TIED CARD OF 'mudlarklaw19.CollectorCycles'. -/
def collectorCyclesCard : Claim7 := { stood := { row := collectorCyclesRow, standIns := [], harness := (true, "4d900e17f5c729b257551ce075046ebefd9a849888773eed3a96de7538e92b15"), looks := false }, kinds := [], alts := [], laidByText := true, laidKinds := [.data], laidTests := true, laidLooks := .later }
def CollectorCyclesCardSaid : Prop := Claim7.holds Tryd.pinned (.plain (OpenSpec.ofChange collectorCyclesSpec)) collectorCyclesCard

/-- THE SECOND FORM's CARD OF 'mudlarklaw19.CollectorCycles'. -/
def collectorCyclesUptoCard : Claim7 := { stood := { row := collectorCyclesUptoRow, standIns := [], harness := (true, "4d900e17f5c729b257551ce075046ebefd9a849888773eed3a96de7538e92b15"), looks := false }, kinds := [], alts := [], laidByText := true, laidKinds := [.data], laidTests := true, laidLooks := .later }
def CollectorCyclesUptoCardSaid : Prop := Claim7.holds Tryd.pinned (.plain (OpenSpec.upto collectorCyclesSpec)) collectorCyclesUptoCard
end Rows
end Go.Proofs.YthdcapkchjamoaaDoor
