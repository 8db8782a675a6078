/-
  DERIVED. GIVEN WITH THE SEED: THE CARDS: each row of YtganbjgkobmdkaaDoorRows.lean that lists a variable, with what it lists TIED to the program's text (the seventh form; the later family's looks); each row that meets fmt, with fmt's text TOLD by the authors' own Lean function (tested against real Go, not proved from fmt's source: count such statements apart). THE CARD IS WHAT COUNTS. Prove the row's statement (the work); the ties are given (YtganbjgkobmdkaaDoorTie.lean); close each card by the builder's one call (the guide's Derived/Test/ToyasCard.lean, 'card_holds'). Laid BY PROGRAM, IN A SANDBOX (cutbox-door.mjs). By AI agents, Wed Nov 11 2026. No macro, syntax, notation, axiom, sorry.
-/
import Derived.Test.YtganbjgkobmdkaaDoorRows
import GoSem.ClaimSeven
namespace Go.Proofs.YtganbjgkobmdkaaDoor
namespace Rows

/-- THE TIED CARD OF 'mudlarklaw18.SweepSteps'. -/
def sweepStepsCard : Claim7 := { stood := { row := sweepStepsRow, standIns := [], harness := (true, "d8c1c5f545b0def8e99fe9ebcee972f56293986edfe14aaabe81a9a77a8ecf87"), looks := false }, kinds := [], alts := [], laidByText := true, laidKinds := [.data], laidTests := true, laidLooks := .later }
def SweepStepsCardSaid : Prop := Claim7.holds Tryd.pinned (.plain (OpenSpec.ofChange sweepStepsSpec)) sweepStepsCard

/-- THE TIED CARD OF 'mudlarklaw18.SweepSweeps'. -/
def sweepSweepsCard : Claim7 := { stood := { row := sweepSweepsRow, standIns := [], harness := (true, "d8c1c5f545b0def8e99fe9ebcee972f56293986edfe14aaabe81a9a77a8ecf87"), looks := false }, kinds := [], alts := [], laidByText := true, laidKinds := [.data], laidTests := true, laidLooks := .later }
def SweepSweepsCardSaid : Prop := Claim7.holds Tryd.pinned (.plain (OpenSpec.ofChange sweepSweepsSpec)) sweepSweepsCard

/-- THE SECOND FORM's CARD OF 'mudlarklaw18.SweepSteps'. -/
def sweepStepsUptoCard : Claim7 := { stood := { row := sweepStepsUptoRow, standIns := [], harness := (true, "d8c1c5f545b0def8e99fe9ebcee972f56293986edfe14aaabe81a9a77a8ecf87"), looks := false }, kinds := [], alts := [], laidByText := true, laidKinds := [.data], laidTests := true, laidLooks := .later }
def SweepStepsUptoCardSaid : Prop := Claim7.holds Tryd.pinned (.plain (OpenSpec.upto sweepStepsSpec)) sweepStepsUptoCard

/-- THE SECOND FORM's CARD OF 'mudlarklaw18.SweepSweeps'. -/
def sweepSweepsUptoCard : Claim7 := { stood := { row := sweepSweepsUptoRow, standIns := [], harness := (true, "d8c1c5f545b0def8e99fe9ebcee972f56293986edfe14aaabe81a9a77a8ecf87"), looks := false }, kinds := [], alts := [], laidByText := true, laidKinds := [.data], laidTests := true, laidLooks := .later }
def SweepSweepsUptoCardSaid : Prop := Claim7.holds Tryd.pinned (.plain (OpenSpec.upto sweepSweepsSpec)) sweepSweepsUptoCard
end Rows
end Go.Proofs.YtganbjgkobmdkaaDoor
