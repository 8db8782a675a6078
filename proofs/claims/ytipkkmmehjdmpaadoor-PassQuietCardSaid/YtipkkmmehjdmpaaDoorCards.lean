/-
  DERIVED. GIVEN WITH THE SEED: THE CARDS: each row of YtipkkmmehjdmpaaDoorRows.lean that lists a variable, with what it lists TIED to the program's text (the seventh form; the later family's looks); each row that meets fmt, with fmt's text TOLD by the authors' own Lean function (tested against real Go, not proved from fmt's source: count such statements apart). THE CARD IS WHAT COUNTS. Prove the row's statement (the work); the ties are given (YtipkkmmehjdmpaaDoorTie.lean); close each card by the builder's one call (the guide's Derived/Test/ToyasCard.lean, 'card_holds'). Laid BY PROGRAM, IN A SANDBOX (cutbox-door.mjs). By AI agents, Wed Nov 11 2026. No macro, syntax, notation, axiom, sorry.
-/
import Derived.Test.YtipkkmmehjdmpaaDoorRows
import GoSem.ClaimSeven
namespace Go.Proofs.YtipkkmmehjdmpaaDoor
namespace Rows

/-- THE TIED CARD OF 'mudlarklaw16.PassSteps'. -/
def passStepsCard : Claim7 := { stood := { row := passStepsRow, standIns := [], harness := (true, "1b91fe06d68815e900c8df30d739de0c7cb3e679f5f016e0e14cf6f016f3c715"), looks := false }, kinds := [], alts := [], laidByText := true, laidKinds := [.data], laidTests := true, laidLooks := .later }
def PassStepsCardSaid : Prop := Claim7.holds Tryd.pinned (.plain (OpenSpec.ofChange passStepsSpec)) passStepsCard

/-- THE TIED CARD OF 'mudlarklaw16.PassGreys'. -/
def passGreysCard : Claim7 := { stood := { row := passGreysRow, standIns := [], harness := (true, "1b91fe06d68815e900c8df30d739de0c7cb3e679f5f016e0e14cf6f016f3c715"), looks := false }, kinds := [], alts := [], laidByText := true, laidKinds := [.data], laidTests := true, laidLooks := .later }
def PassGreysCardSaid : Prop := Claim7.holds Tryd.pinned (.plain (OpenSpec.ofChange passGreysSpec)) passGreysCard

/-- THE TIED CARD OF 'mudlarklaw16.PassMarks'. -/
def passMarksCard : Claim7 := { stood := { row := passMarksRow, standIns := [], harness := (true, "1b91fe06d68815e900c8df30d739de0c7cb3e679f5f016e0e14cf6f016f3c715"), looks := false }, kinds := [], alts := [], laidByText := true, laidKinds := [.data], laidTests := true, laidLooks := .later }
def PassMarksCardSaid : Prop := Claim7.holds Tryd.pinned (.plain (OpenSpec.ofChange passMarksSpec)) passMarksCard

/-- THE TIED CARD OF 'mudlarklaw16.PassQuiet'. -/
def passQuietCard : Claim7 := { stood := { row := passQuietRow, standIns := [], harness := (true, "1b91fe06d68815e900c8df30d739de0c7cb3e679f5f016e0e14cf6f016f3c715"), looks := false }, kinds := [], alts := [], laidByText := true, laidKinds := [.data], laidTests := true, laidLooks := .later }
def PassQuietCardSaid : Prop := Claim7.holds Tryd.pinned (.plain (OpenSpec.ofChange passQuietSpec)) passQuietCard

/-- THE SECOND FORM's CARD OF 'mudlarklaw16.PassSteps'. -/
def passStepsUptoCard : Claim7 := { stood := { row := passStepsUptoRow, standIns := [], harness := (true, "1b91fe06d68815e900c8df30d739de0c7cb3e679f5f016e0e14cf6f016f3c715"), looks := false }, kinds := [], alts := [], laidByText := true, laidKinds := [.data], laidTests := true, laidLooks := .later }
def PassStepsUptoCardSaid : Prop := Claim7.holds Tryd.pinned (.plain (OpenSpec.upto passStepsSpec)) passStepsUptoCard

/-- THE SECOND FORM's CARD OF 'mudlarklaw16.PassGreys'. -/
def passGreysUptoCard : Claim7 := { stood := { row := passGreysUptoRow, standIns := [], harness := (true, "1b91fe06d68815e900c8df30d739de0c7cb3e679f5f016e0e14cf6f016f3c715"), looks := false }, kinds := [], alts := [], laidByText := true, laidKinds := [.data], laidTests := true, laidLooks := .later }
def PassGreysUptoCardSaid : Prop := Claim7.holds Tryd.pinned (.plain (OpenSpec.upto passGreysSpec)) passGreysUptoCard

/-- THE SECOND FORM's CARD OF 'mudlarklaw16.PassMarks'. -/
def passMarksUptoCard : Claim7 := { stood := { row := passMarksUptoRow, standIns := [], harness := (true, "1b91fe06d68815e900c8df30d739de0c7cb3e679f5f016e0e14cf6f016f3c715"), looks := false }, kinds := [], alts := [], laidByText := true, laidKinds := [.data], laidTests := true, laidLooks := .later }
def PassMarksUptoCardSaid : Prop := Claim7.holds Tryd.pinned (.plain (OpenSpec.upto passMarksSpec)) passMarksUptoCard

/-- THE SECOND FORM's CARD OF 'mudlarklaw16.PassQuiet'. -/
def passQuietUptoCard : Claim7 := { stood := { row := passQuietUptoRow, standIns := [], harness := (true, "1b91fe06d68815e900c8df30d739de0c7cb3e679f5f016e0e14cf6f016f3c715"), looks := false }, kinds := [], alts := [], laidByText := true, laidKinds := [.data], laidTests := true, laidLooks := .later }
def PassQuietUptoCardSaid : Prop := Claim7.holds Tryd.pinned (.plain (OpenSpec.upto passQuietSpec)) passQuietUptoCard
end Rows
end Go.Proofs.YtipkkmmehjdmpaaDoor
