/-
  DERIVED. GIVEN WITH THE SEED: THE CARDS: each row of YtglmecdbafceoaaDoorRows.lean that lists a variable, with what it lists TIED to the program's text (the seventh form; the later family's looks); each row that meets fmt, with fmt's text TOLD by the authors' own Lean function (tested against real Go, not proved from fmt's source: count such statements apart). THE CARD IS WHAT COUNTS. Prove the row's statement (the work); the ties are given (YtglmecdbafceoaaDoorTie.lean); close each card by the builder's one call (the guide's Derived/Test/ToyasCard.lean, 'card_holds'). Laid BY PROGRAM, IN A SANDBOX (cutbox-door.mjs). By AI agents, Wed Nov 11 2026. No macro, syntax, notation, axiom, sorry.
-/
import Derived.Test.YtglmecdbafceoaaDoorRows
import GoSem.ClaimSeven
namespace Go.Proofs.YtglmecdbafceoaaDoor
namespace Rows

/-- THE TIED CARD OF 'mudlarklaw11.TicketSteps'. -/
def ticketStepsCard : Claim7 := { stood := { row := ticketStepsRow, standIns := [], harness := (true, "a29797eec8177bd1721a4aa5ee87a7a46aea66da4c884e409c223f44e0ad71cc"), looks := false }, kinds := [], alts := [], laidByText := true, laidKinds := [.data], laidTests := true, laidLooks := .later }
def TicketStepsCardSaid : Prop := Claim7.holds Tryd.pinned (.plain (OpenSpec.ofChange ticketStepsSpec)) ticketStepsCard

/-- THE TIED CARD OF 'mudlarklaw11.TicketQueue'. -/
def ticketQueueCard : Claim7 := { stood := { row := ticketQueueRow, standIns := [], harness := (true, "a29797eec8177bd1721a4aa5ee87a7a46aea66da4c884e409c223f44e0ad71cc"), looks := false }, kinds := [], alts := [], laidByText := true, laidKinds := [.data], laidTests := true, laidLooks := .later }
def TicketQueueCardSaid : Prop := Claim7.holds Tryd.pinned (.plain (OpenSpec.ofChange ticketQueueSpec)) ticketQueueCard

/-- THE SECOND FORM's CARD OF 'mudlarklaw11.TicketSteps'. -/
def ticketStepsUptoCard : Claim7 := { stood := { row := ticketStepsUptoRow, standIns := [], harness := (true, "a29797eec8177bd1721a4aa5ee87a7a46aea66da4c884e409c223f44e0ad71cc"), looks := false }, kinds := [], alts := [], laidByText := true, laidKinds := [.data], laidTests := true, laidLooks := .later }
def TicketStepsUptoCardSaid : Prop := Claim7.holds Tryd.pinned (.plain (OpenSpec.upto ticketStepsSpec)) ticketStepsUptoCard

/-- THE SECOND FORM's CARD OF 'mudlarklaw11.TicketQueue'. -/
def ticketQueueUptoCard : Claim7 := { stood := { row := ticketQueueUptoRow, standIns := [], harness := (true, "a29797eec8177bd1721a4aa5ee87a7a46aea66da4c884e409c223f44e0ad71cc"), looks := false }, kinds := [], alts := [], laidByText := true, laidKinds := [.data], laidTests := true, laidLooks := .later }
def TicketQueueUptoCardSaid : Prop := Claim7.holds Tryd.pinned (.plain (OpenSpec.upto ticketQueueSpec)) ticketQueueUptoCard
end Rows
end Go.Proofs.YtglmecdbafceoaaDoor
