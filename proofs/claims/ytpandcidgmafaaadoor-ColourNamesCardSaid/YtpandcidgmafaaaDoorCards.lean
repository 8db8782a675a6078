/-
  DERIVED. GIVEN WITH THE SEED: THE CARDS: each row of YtpandcidgmafaaaDoorRows.lean that lists a variable, with what it lists TIED to the program's text (the seventh form; the later family's looks); each row that meets fmt, with fmt's text TOLD by the authors' own Lean function (tested against real Go, not proved from fmt's source: count such statements apart). THE CARD IS WHAT COUNTS. Prove the row's statement (the work); the ties are given (YtpandcidgmafaaaDoorTie.lean); close each card by the builder's one call (the guide's Derived/Test/ToyasCard.lean, 'card_holds'). Laid BY PROGRAM, IN A SANDBOX (cutbox-door.mjs). By AI agents, Wed Nov 11 2026. No macro, syntax, notation, axiom, sorry.
-/
import Derived.Test.YtpandcidgmafaaaDoorRows
import GoSem.ClaimSeven
namespace Go.Proofs.YtpandcidgmafaaaDoor
namespace Rows

/-- THE TIED CARD OF 'mudlarklaw02.ColourNames'. -/
def colourNamesCard : Claim7 := { stood := { row := colourNamesRow, standIns := [], harness := (true, "cb79fc3cb937606f1bfb8b7e8cc9e739c3cf19f65d4487c2896b05440e5df2e6"), looks := false }, kinds := [], alts := [], laidByText := true, laidKinds := [.data], laidTests := true, laidLooks := .later }
def ColourNamesCardSaid : Prop := Claim7.holds Tryd.pinned (.plain (OpenSpec.ofChange colourNamesSpec)) colourNamesCard

/-- THE SECOND FORM's CARD OF 'mudlarklaw02.ColourNames'. -/
def colourNamesUptoCard : Claim7 := { stood := { row := colourNamesUptoRow, standIns := [], harness := (true, "cb79fc3cb937606f1bfb8b7e8cc9e739c3cf19f65d4487c2896b05440e5df2e6"), looks := false }, kinds := [], alts := [], laidByText := true, laidKinds := [.data], laidTests := true, laidLooks := .later }
def ColourNamesUptoCardSaid : Prop := Claim7.holds Tryd.pinned (.plain (OpenSpec.upto colourNamesSpec)) colourNamesUptoCard
end Rows
end Go.Proofs.YtpandcidgmafaaaDoor
