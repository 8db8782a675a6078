/-
  DERIVED. GIVEN WITH THE SEED: THE CARDS: each row of YtdhejdehlomppaaDoorRows.lean that lists a variable, with what it lists TIED to the program's text (the seventh form; the later family's looks); each row that meets fmt, with fmt's text TOLD by the authors' own Lean function (tested against real Go, not proved from fmt's source: count such statements apart). THE CARD IS WHAT COUNTS. Prove the row's statement (the work); the ties are given (YtdhejdehlomppaaDoorTie.lean); close each card by the builder's one call (the guide's Derived/Test/ToyasCard.lean, 'card_holds'). Laid BY PROGRAM, IN A SANDBOX (cutbox-door.mjs). By AI agents, Wed Nov 11 2026. No macro, syntax, notation, axiom, sorry.
-/
import Derived.Test.YtdhejdehlomppaaDoorRows
import GoSem.ClaimSeven
namespace Go.Proofs.YtdhejdehlomppaaDoor
namespace Rows

/-- THE TIED CARD OF 'mudlarklaw06.AccessTexts'. -/
def accessTextsCard : Claim7 := { stood := { row := accessTextsRow, standIns := [], harness := (true, "43fa9a97684ebb97803955131fd353b764977c25f73b2206ef49e5f9356d94f8"), looks := false }, kinds := [], alts := [], laidByText := true, laidKinds := [.data, .data, .data, .data, .data, .data, .data], laidTests := true, laidLooks := .later }
def AccessTextsCardSaid : Prop := Claim7.holds Tryd.pinned (.plain (OpenSpec.ofChange accessTextsSpec)) accessTextsCard

/-- THE TIED CARD OF 'mudlarklaw06.AccessChanges'. -/
def accessChangesCard : Claim7 := { stood := { row := accessChangesRow, standIns := [], harness := (true, "43fa9a97684ebb97803955131fd353b764977c25f73b2206ef49e5f9356d94f8"), looks := false }, kinds := [], alts := [], laidByText := true, laidKinds := [.data, .data, .data, .data, .data, .data, .data], laidTests := true, laidLooks := .later }
def AccessChangesCardSaid : Prop := Claim7.holds Tryd.pinned (.plain (OpenSpec.ofChange accessChangesSpec)) accessChangesCard

/-- THE TIED CARD OF 'mudlarklaw06.AccessApart'. -/
def accessApartCard : Claim7 := { stood := { row := accessApartRow, standIns := [], harness := (true, "43fa9a97684ebb97803955131fd353b764977c25f73b2206ef49e5f9356d94f8"), looks := false }, kinds := [], alts := [], laidByText := true, laidKinds := [.data, .data, .data, .data, .data, .data, .data], laidTests := true, laidLooks := .later }
def AccessApartCardSaid : Prop := Claim7.holds Tryd.pinned (.plain (OpenSpec.ofChange accessApartSpec)) accessApartCard

/-- THE SECOND FORM's CARD OF 'mudlarklaw06.AccessTexts'. -/
def accessTextsUptoCard : Claim7 := { stood := { row := accessTextsUptoRow, standIns := [], harness := (true, "43fa9a97684ebb97803955131fd353b764977c25f73b2206ef49e5f9356d94f8"), looks := false }, kinds := [], alts := [], laidByText := true, laidKinds := [.data, .data, .data, .data, .data, .data, .data], laidTests := true, laidLooks := .later }
def AccessTextsUptoCardSaid : Prop := Claim7.holds Tryd.pinned (.plain (OpenSpec.upto accessTextsSpec)) accessTextsUptoCard

/-- THE SECOND FORM's CARD OF 'mudlarklaw06.AccessChanges'. -/
def accessChangesUptoCard : Claim7 := { stood := { row := accessChangesUptoRow, standIns := [], harness := (true, "43fa9a97684ebb97803955131fd353b764977c25f73b2206ef49e5f9356d94f8"), looks := false }, kinds := [], alts := [], laidByText := true, laidKinds := [.data, .data, .data, .data, .data, .data, .data], laidTests := true, laidLooks := .later }
def AccessChangesUptoCardSaid : Prop := Claim7.holds Tryd.pinned (.plain (OpenSpec.upto accessChangesSpec)) accessChangesUptoCard

/-- THE SECOND FORM's CARD OF 'mudlarklaw06.AccessApart'. -/
def accessApartUptoCard : Claim7 := { stood := { row := accessApartUptoRow, standIns := [], harness := (true, "43fa9a97684ebb97803955131fd353b764977c25f73b2206ef49e5f9356d94f8"), looks := false }, kinds := [], alts := [], laidByText := true, laidKinds := [.data, .data, .data, .data, .data, .data, .data], laidTests := true, laidLooks := .later }
def AccessApartUptoCardSaid : Prop := Claim7.holds Tryd.pinned (.plain (OpenSpec.upto accessApartSpec)) accessApartUptoCard
end Rows
end Go.Proofs.YtdhejdehlomppaaDoor
