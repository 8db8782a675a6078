/-
  DERIVED. GIVEN WITH THE SEED: THE CARDS: each row of YtppajedeapikkaaDoorRows.lean that lists a variable, with what it lists TIED to the program's text (the seventh form; the later family's looks); each row that meets fmt, with fmt's text TOLD by the authors' own Lean function (tested against real Go, not proved from fmt's source: count such statements apart). THE CARD IS WHAT COUNTS. Prove the row's statement (the work); the ties are given (YtppajedeapikkaaDoorTie.lean); close each card by the builder's one call (the guide's Derived/Test/ToyasCard.lean, 'card_holds'). Laid BY PROGRAM, IN A SANDBOX (cutbox-door.mjs). By AI agents, Wed Nov 11 2026. No macro, syntax, notation, axiom, sorry.
-/
import Derived.Test.YtppajedeapikkaaDoorRows
import GoSem.ClaimSeven
namespace Go.Proofs.YtppajedeapikkaaDoor
namespace Rows

/-- THE TIED CARD OF 'mudlarklaw15.RootsSteps'. -/
def rootsStepsCard : Claim7 := { stood := { row := rootsStepsRow, standIns := [], harness := (true, "ddb8ebb8983c4bc4eb7adbd6fc7487ce5b3af4db013496c21f1a139987f91bc9"), looks := false }, kinds := [], alts := [], laidByText := true, laidKinds := [.data], laidTests := true, laidLooks := .later }
def RootsStepsCardSaid : Prop := Claim7.holds Tryd.pinned (.plain (OpenSpec.ofChange rootsStepsSpec)) rootsStepsCard

/-- THE TIED CARD OF 'mudlarklaw15.RootsShades'. -/
def rootsShadesCard : Claim7 := { stood := { row := rootsShadesRow, standIns := [], harness := (true, "ddb8ebb8983c4bc4eb7adbd6fc7487ce5b3af4db013496c21f1a139987f91bc9"), looks := false }, kinds := [], alts := [], laidByText := true, laidKinds := [.data], laidTests := true, laidLooks := .later }
def RootsShadesCardSaid : Prop := Claim7.holds Tryd.pinned (.plain (OpenSpec.ofChange rootsShadesSpec)) rootsShadesCard

/-- THE TIED CARD OF 'mudlarklaw15.RootsOnce'. -/
def rootsOnceCard : Claim7 := { stood := { row := rootsOnceRow, standIns := [], harness := (true, "ddb8ebb8983c4bc4eb7adbd6fc7487ce5b3af4db013496c21f1a139987f91bc9"), looks := false }, kinds := [], alts := [], laidByText := true, laidKinds := [.data], laidTests := true, laidLooks := .later }
def RootsOnceCardSaid : Prop := Claim7.holds Tryd.pinned (.plain (OpenSpec.ofChange rootsOnceSpec)) rootsOnceCard

/-- THE SECOND FORM's CARD OF 'mudlarklaw15.RootsSteps'. -/
def rootsStepsUptoCard : Claim7 := { stood := { row := rootsStepsUptoRow, standIns := [], harness := (true, "ddb8ebb8983c4bc4eb7adbd6fc7487ce5b3af4db013496c21f1a139987f91bc9"), looks := false }, kinds := [], alts := [], laidByText := true, laidKinds := [.data], laidTests := true, laidLooks := .later }
def RootsStepsUptoCardSaid : Prop := Claim7.holds Tryd.pinned (.plain (OpenSpec.upto rootsStepsSpec)) rootsStepsUptoCard

/-- THE SECOND FORM's CARD OF 'mudlarklaw15.RootsShades'. -/
def rootsShadesUptoCard : Claim7 := { stood := { row := rootsShadesUptoRow, standIns := [], harness := (true, "ddb8ebb8983c4bc4eb7adbd6fc7487ce5b3af4db013496c21f1a139987f91bc9"), looks := false }, kinds := [], alts := [], laidByText := true, laidKinds := [.data], laidTests := true, laidLooks := .later }
def RootsShadesUptoCardSaid : Prop := Claim7.holds Tryd.pinned (.plain (OpenSpec.upto rootsShadesSpec)) rootsShadesUptoCard

/-- THE SECOND FORM's CARD OF 'mudlarklaw15.RootsOnce'. -/
def rootsOnceUptoCard : Claim7 := { stood := { row := rootsOnceUptoRow, standIns := [], harness := (true, "ddb8ebb8983c4bc4eb7adbd6fc7487ce5b3af4db013496c21f1a139987f91bc9"), looks := false }, kinds := [], alts := [], laidByText := true, laidKinds := [.data], laidTests := true, laidLooks := .later }
def RootsOnceUptoCardSaid : Prop := Claim7.holds Tryd.pinned (.plain (OpenSpec.upto rootsOnceSpec)) rootsOnceUptoCard
end Rows
end Go.Proofs.YtppajedeapikkaaDoor
