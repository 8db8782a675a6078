/-
  DERIVED. GIVEN WITH THE SEED: THE CARDS: each row of YtoojiaaooccknaaDoorRows.lean that lists a variable, with what it lists TIED to the program's text (the seventh form; the later family's looks); each row that meets fmt, with fmt's text TOLD by the authors' own Lean function (tested against real Go, not proved from fmt's source: count such statements apart). THE CARD IS WHAT COUNTS. Prove the row's statement (the work); the ties are given (YtoojiaaooccknaaDoorTie.lean); close each card by the builder's one call (the guide's Derived/Test/ToyasCard.lean, 'card_holds'). Laid BY PROGRAM, IN A SANDBOX (cutbox-door.mjs). By AI agents, Wed Nov 11 2026. No macro, syntax, notation, axiom, sorry.
-/
import Derived.Test.YtoojiaaooccknaaDoorRows
import GoSem.ClaimSeven
namespace Go.Proofs.YtoojiaaooccknaaDoor
namespace Rows

/-- THE TIED CARD OF 'mudlarklaw07.HandPlays'. -/
def handPlaysCard : Claim7 := { stood := { row := handPlaysRow, standIns := [], harness := (true, "c6a584f72360c686b3b4e8655b335ee67f46a97e87d92d007c372487087e8c5a"), looks := false }, kinds := [], alts := [], laidByText := true, laidKinds := [.data], laidTests := true, laidLooks := .later }
def HandPlaysCardSaid : Prop := Claim7.holds Tryd.pinned (.plain (OpenSpec.ofChange handPlaysSpec)) handPlaysCard

/-- THE TIED CARD OF 'mudlarklaw07.HandFields'. -/
def handFieldsCard : Claim7 := { stood := { row := handFieldsRow, standIns := [], harness := (true, "c6a584f72360c686b3b4e8655b335ee67f46a97e87d92d007c372487087e8c5a"), looks := false }, kinds := [], alts := [], laidByText := true, laidKinds := [.data], laidTests := true, laidLooks := .later }
def HandFieldsCardSaid : Prop := Claim7.holds Tryd.pinned (.plain (OpenSpec.ofChange handFieldsSpec)) handFieldsCard

/-- THE TIED CARD OF 'mudlarklaw07.HandLast'. -/
def handLastCard : Claim7 := { stood := { row := handLastRow, standIns := [], harness := (true, "c6a584f72360c686b3b4e8655b335ee67f46a97e87d92d007c372487087e8c5a"), looks := false }, kinds := [], alts := [], laidByText := true, laidKinds := [.data], laidTests := true, laidLooks := .later }
def HandLastCardSaid : Prop := Claim7.holds Tryd.pinned (.plain (OpenSpec.ofChange handLastSpec)) handLastCard

/-- THE SECOND FORM's CARD OF 'mudlarklaw07.HandPlays'. -/
def handPlaysUptoCard : Claim7 := { stood := { row := handPlaysUptoRow, standIns := [], harness := (true, "c6a584f72360c686b3b4e8655b335ee67f46a97e87d92d007c372487087e8c5a"), looks := false }, kinds := [], alts := [], laidByText := true, laidKinds := [.data], laidTests := true, laidLooks := .later }
def HandPlaysUptoCardSaid : Prop := Claim7.holds Tryd.pinned (.plain (OpenSpec.upto handPlaysSpec)) handPlaysUptoCard

/-- THE SECOND FORM's CARD OF 'mudlarklaw07.HandFields'. -/
def handFieldsUptoCard : Claim7 := { stood := { row := handFieldsUptoRow, standIns := [], harness := (true, "c6a584f72360c686b3b4e8655b335ee67f46a97e87d92d007c372487087e8c5a"), looks := false }, kinds := [], alts := [], laidByText := true, laidKinds := [.data], laidTests := true, laidLooks := .later }
def HandFieldsUptoCardSaid : Prop := Claim7.holds Tryd.pinned (.plain (OpenSpec.upto handFieldsSpec)) handFieldsUptoCard

/-- THE SECOND FORM's CARD OF 'mudlarklaw07.HandLast'. -/
def handLastUptoCard : Claim7 := { stood := { row := handLastUptoRow, standIns := [], harness := (true, "c6a584f72360c686b3b4e8655b335ee67f46a97e87d92d007c372487087e8c5a"), looks := false }, kinds := [], alts := [], laidByText := true, laidKinds := [.data], laidTests := true, laidLooks := .later }
def HandLastUptoCardSaid : Prop := Claim7.holds Tryd.pinned (.plain (OpenSpec.upto handLastSpec)) handLastUptoCard
end Rows
end Go.Proofs.YtoojiaaooccknaaDoor
