/-
  DERIVED. GIVEN WITH THE SEED: THE CARDS: each row of YtlnnnjlmfndlbaaDoorRows.lean that lists a variable, with what it lists TIED to the program's text (the seventh form; the later family's looks); each row that meets fmt, with fmt's text TOLD by the authors' own Lean function (tested against real Go, not proved from fmt's source: count such statements apart). THE CARD IS WHAT COUNTS. Prove the row's statement (the work); the ties are given (YtlnnnjlmfndlbaaDoorTie.lean); close each card by the builder's one call (the guide's Derived/Test/ToyasCard.lean, 'card_holds'). Laid BY PROGRAM, IN A SANDBOX (cutbox-door.mjs). By AI agents, Wed Nov 11 2026. No macro, syntax, notation, axiom, sorry.
-/
import Derived.Test.YtlnnnjlmfndlbaaDoorRows
import GoSem.ClaimSeven
namespace Go.Proofs.YtlnnnjlmfndlbaaDoor
namespace Rows

/-- THE TIED CARD OF 'mudlarklaw01.WordKinds'. -/
def wordKindsCard : Claim7 := { stood := { row := wordKindsRow, standIns := [], harness := (true, "b41be5ee505d33fbc434ffe67cbff60e80965440ee0f839c143fa81b97847ece"), looks := true }, kinds := [], alts := [], laidByText := true, laidKinds := [.data, .data, .data], laidTests := true, laidLooks := .later }
def WordKindsCardSaid : Prop := Claim7.holds Tryd.pinned (.plain (OpenSpec.ofChange wordKindsSpec)) wordKindsCard

/-- THE TIED CARD OF 'mudlarklaw01.WordTexts'. -/
def wordTextsCard : Claim7 := { stood := { row := wordTextsRow, standIns := [], harness := (true, "b41be5ee505d33fbc434ffe67cbff60e80965440ee0f839c143fa81b97847ece"), looks := true }, kinds := [], alts := [], laidByText := true, laidKinds := [.data, .data, .data, .sentinel, .sentinel], laidTests := true, laidLooks := .later }
def WordTextsCardSaid : Prop := Claim7.holds Tryd.pinned (.plain (OpenSpec.ofChange wordTextsSpec)) wordTextsCard

/-- THE TIED CARD OF 'mudlarklaw01.WordReads'. -/
def wordReadsCard : Claim7 := { stood := { row := wordReadsRow, standIns := [], harness := (true, "b41be5ee505d33fbc434ffe67cbff60e80965440ee0f839c143fa81b97847ece"), looks := true }, kinds := [], alts := [], laidByText := true, laidKinds := [.data, .data, .data, .sentinel, .sentinel], laidTests := true, laidLooks := .later }
def WordReadsCardSaid : Prop := Claim7.holds Tryd.pinned (.plain (OpenSpec.ofChange wordReadsSpec)) wordReadsCard

/-- THE TIED CARD OF 'mudlarklaw01.WordCells'. -/
def wordCellsCard : Claim7 := { stood := { row := wordCellsRow, standIns := [], harness := (true, "b41be5ee505d33fbc434ffe67cbff60e80965440ee0f839c143fa81b97847ece"), looks := true }, kinds := [], alts := [], laidByText := true, laidKinds := [.data, .data, .data], laidTests := true, laidLooks := .later }
def WordCellsCardSaid : Prop := Claim7.holds Tryd.pinned (.plain (OpenSpec.ofChange wordCellsSpec)) wordCellsCard

/-- THE TIED CARD OF 'mudlarklaw01.WordTotal'. -/
def wordTotalCard : Claim7 := { stood := { row := wordTotalRow, standIns := [], harness := (true, "b41be5ee505d33fbc434ffe67cbff60e80965440ee0f839c143fa81b97847ece"), looks := true }, kinds := [], alts := [], laidByText := true, laidKinds := [.data, .data, .data], laidTests := true, laidLooks := .later }
def WordTotalCardSaid : Prop := Claim7.holds Tryd.pinned (.plain (OpenSpec.ofChange wordTotalSpec)) wordTotalCard

/-- THE SECOND FORM's CARD OF 'mudlarklaw01.WordKinds'. -/
def wordKindsUptoCard : Claim7 := { stood := { row := wordKindsUptoRow, standIns := [], harness := (true, "b41be5ee505d33fbc434ffe67cbff60e80965440ee0f839c143fa81b97847ece"), looks := true }, kinds := [], alts := [], laidByText := true, laidKinds := [.data, .data, .data], laidTests := true, laidLooks := .later }
def WordKindsUptoCardSaid : Prop := Claim7.holds Tryd.pinned (.plain (OpenSpec.upto wordKindsSpec)) wordKindsUptoCard

/-- THE SECOND FORM's CARD OF 'mudlarklaw01.WordTexts'. -/
def wordTextsUptoCard : Claim7 := { stood := { row := wordTextsUptoRow, standIns := [], harness := (true, "b41be5ee505d33fbc434ffe67cbff60e80965440ee0f839c143fa81b97847ece"), looks := true }, kinds := [], alts := [], laidByText := true, laidKinds := [.data, .data, .data, .sentinel, .sentinel], laidTests := true, laidLooks := .later }
def WordTextsUptoCardSaid : Prop := Claim7.holds Tryd.pinned (.plain (OpenSpec.upto wordTextsSpec)) wordTextsUptoCard

/-- THE SECOND FORM's CARD OF 'mudlarklaw01.WordReads'. -/
def wordReadsUptoCard : Claim7 := { stood := { row := wordReadsUptoRow, standIns := [], harness := (true, "b41be5ee505d33fbc434ffe67cbff60e80965440ee0f839c143fa81b97847ece"), looks := true }, kinds := [], alts := [], laidByText := true, laidKinds := [.data, .data, .data, .sentinel, .sentinel], laidTests := true, laidLooks := .later }
def WordReadsUptoCardSaid : Prop := Claim7.holds Tryd.pinned (.plain (OpenSpec.upto wordReadsSpec)) wordReadsUptoCard

/-- THE SECOND FORM's CARD OF 'mudlarklaw01.WordCells'. -/
def wordCellsUptoCard : Claim7 := { stood := { row := wordCellsUptoRow, standIns := [], harness := (true, "b41be5ee505d33fbc434ffe67cbff60e80965440ee0f839c143fa81b97847ece"), looks := true }, kinds := [], alts := [], laidByText := true, laidKinds := [.data, .data, .data], laidTests := true, laidLooks := .later }
def WordCellsUptoCardSaid : Prop := Claim7.holds Tryd.pinned (.plain (OpenSpec.upto wordCellsSpec)) wordCellsUptoCard

/-- THE SECOND FORM's CARD OF 'mudlarklaw01.WordTotal'. -/
def wordTotalUptoCard : Claim7 := { stood := { row := wordTotalUptoRow, standIns := [], harness := (true, "b41be5ee505d33fbc434ffe67cbff60e80965440ee0f839c143fa81b97847ece"), looks := true }, kinds := [], alts := [], laidByText := true, laidKinds := [.data, .data, .data], laidTests := true, laidLooks := .later }
def WordTotalUptoCardSaid : Prop := Claim7.holds Tryd.pinned (.plain (OpenSpec.upto wordTotalSpec)) wordTotalUptoCard
end Rows
end Go.Proofs.YtlnnnjlmfndlbaaDoor
