/-
  DERIVED. GIVEN WITH THE SEED: THE CARDS: each row of YtpieobegcaeopaaDoorRows.lean that lists a variable, with what it lists TIED to the program's text (the seventh form; the later family's looks); each row that meets fmt, with fmt's text TOLD by the authors' own Lean function (tested against real Go, not proved from fmt's source: count such statements apart). THE CARD IS WHAT COUNTS. Prove the row's statement (the work); the ties are given (YtpieobegcaeopaaDoorTie.lean); close each card by the builder's one call (the guide's Derived/Test/ToyasCard.lean, 'card_holds'). Laid BY PROGRAM, IN A SANDBOX (cutbox-door.mjs). By AI agents, Wed Nov 11 2026. No macro, syntax, notation, axiom, sorry.
-/
import Derived.Test.YtpieobegcaeopaaDoorRows
import GoSem.ClaimSeven
namespace Go.Proofs.YtpieobegcaeopaaDoor
namespace Rows

/-- THE TIED CARD OF 'mudlarklaw12.GateKeeps'. -/
def gateKeepsCard : Claim7 := { stood := { row := gateKeepsRow, standIns := [], harness := (true, "8543c00e1c9e172178147ed765ac2f84a301b2c0b2307dd3812a99fe02ace694"), looks := false }, kinds := [], alts := [], laidByText := true, laidKinds := [.data], laidTests := true, laidLooks := .later }
def GateKeepsCardSaid : Prop := Claim7.holds Tryd.pinned (.plain (OpenSpec.ofChange gateKeepsSpec)) gateKeepsCard

/-- THE TIED CARD OF 'mudlarklaw12.GateGrows'. -/
def gateGrowsCard : Claim7 := { stood := { row := gateGrowsRow, standIns := [], harness := (true, "8543c00e1c9e172178147ed765ac2f84a301b2c0b2307dd3812a99fe02ace694"), looks := false }, kinds := [], alts := [], laidByText := true, laidKinds := [.data], laidTests := true, laidLooks := .later }
def GateGrowsCardSaid : Prop := Claim7.holds Tryd.pinned (.plain (OpenSpec.ofChange gateGrowsSpec)) gateGrowsCard

/-- THE SECOND FORM's CARD OF 'mudlarklaw12.GateKeeps'. -/
def gateKeepsUptoCard : Claim7 := { stood := { row := gateKeepsUptoRow, standIns := [], harness := (true, "8543c00e1c9e172178147ed765ac2f84a301b2c0b2307dd3812a99fe02ace694"), looks := false }, kinds := [], alts := [], laidByText := true, laidKinds := [.data], laidTests := true, laidLooks := .later }
def GateKeepsUptoCardSaid : Prop := Claim7.holds Tryd.pinned (.plain (OpenSpec.upto gateKeepsSpec)) gateKeepsUptoCard

/-- THE SECOND FORM's CARD OF 'mudlarklaw12.GateGrows'. -/
def gateGrowsUptoCard : Claim7 := { stood := { row := gateGrowsUptoRow, standIns := [], harness := (true, "8543c00e1c9e172178147ed765ac2f84a301b2c0b2307dd3812a99fe02ace694"), looks := false }, kinds := [], alts := [], laidByText := true, laidKinds := [.data], laidTests := true, laidLooks := .later }
def GateGrowsUptoCardSaid : Prop := Claim7.holds Tryd.pinned (.plain (OpenSpec.upto gateGrowsSpec)) gateGrowsUptoCard
end Rows
end Go.Proofs.YtpieobegcaeopaaDoor
