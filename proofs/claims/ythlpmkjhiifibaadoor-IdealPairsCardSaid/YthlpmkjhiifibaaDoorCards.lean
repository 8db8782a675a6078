/-
  DERIVED. GIVEN WITH THE SEED: THE CARDS: each row of YthlpmkjhiifibaaDoorRows.lean that lists a variable, with what it lists TIED to the program's text (the seventh form; the later family's looks); each row that meets fmt, with fmt's text TOLD by the authors' own Lean function (tested against real Go, not proved from fmt's source: count such statements apart). THE CARD IS WHAT COUNTS. Prove the row's statement (the work); the ties are given (YthlpmkjhiifibaaDoorTie.lean); close each card by the builder's one call (the guide's Derived/Test/ToyasCard.lean, 'card_holds'). Laid BY PROGRAM, IN A SANDBOX (cutbox-door.mjs). By AI agents, Wed Nov 11 2026. No macro, syntax, notation, axiom, sorry.
-/
import Derived.Test.YthlpmkjhiifibaaDoorRows
import GoSem.ClaimSeven
namespace Go.Proofs.YthlpmkjhiifibaaDoor
namespace Rows

/-- THE TIED CARD OF 'mudlarklaw09.IdealPlays'. -/
def idealPlaysCard : Claim7 := { stood := { row := idealPlaysRow, standIns := [], harness := (true, "dc969d252041ce250cd5224d54b30a8418ec12c03183d9ba130f73760c90a750"), looks := false }, kinds := [], alts := [], laidByText := true, laidKinds := [.data, .data], laidTests := true, laidLooks := .later }
def IdealPlaysCardSaid : Prop := Claim7.holds Tryd.pinned (.plain (OpenSpec.ofChange idealPlaysSpec)) idealPlaysCard

/-- THE TIED CARD OF 'mudlarklaw09.IdealApart'. -/
def idealApartCard : Claim7 := { stood := { row := idealApartRow, standIns := [], harness := (true, "dc969d252041ce250cd5224d54b30a8418ec12c03183d9ba130f73760c90a750"), looks := false }, kinds := [], alts := [], laidByText := true, laidKinds := [.data, .data], laidTests := true, laidLooks := .later }
def IdealApartCardSaid : Prop := Claim7.holds Tryd.pinned (.plain (OpenSpec.ofChange idealApartSpec)) idealApartCard

/-- THE TIED CARD OF 'mudlarklaw09.IdealPairs'. -/
def idealPairsCard : Claim7 := { stood := { row := idealPairsRow, standIns := [], harness := (true, "dc969d252041ce250cd5224d54b30a8418ec12c03183d9ba130f73760c90a750"), looks := false }, kinds := [], alts := [], laidByText := true, laidKinds := [.data, .data], laidTests := true, laidLooks := .later }
def IdealPairsCardSaid : Prop := Claim7.holds Tryd.pinned (.plain (OpenSpec.ofChange idealPairsSpec)) idealPairsCard

/-- THE TIED CARD OF 'mudlarklaw09.IdealFull'. -/
def idealFullCard : Claim7 := { stood := { row := idealFullRow, standIns := [], harness := (true, "dc969d252041ce250cd5224d54b30a8418ec12c03183d9ba130f73760c90a750"), looks := false }, kinds := [], alts := [], laidByText := true, laidKinds := [.data, .data], laidTests := true, laidLooks := .later }
def IdealFullCardSaid : Prop := Claim7.holds Tryd.pinned (.plain (OpenSpec.ofChange idealFullSpec)) idealFullCard

/-- THE SECOND FORM's CARD OF 'mudlarklaw09.IdealPlays'. -/
def idealPlaysUptoCard : Claim7 := { stood := { row := idealPlaysUptoRow, standIns := [], harness := (true, "dc969d252041ce250cd5224d54b30a8418ec12c03183d9ba130f73760c90a750"), looks := false }, kinds := [], alts := [], laidByText := true, laidKinds := [.data, .data], laidTests := true, laidLooks := .later }
def IdealPlaysUptoCardSaid : Prop := Claim7.holds Tryd.pinned (.plain (OpenSpec.upto idealPlaysSpec)) idealPlaysUptoCard

/-- THE SECOND FORM's CARD OF 'mudlarklaw09.IdealApart'. -/
def idealApartUptoCard : Claim7 := { stood := { row := idealApartUptoRow, standIns := [], harness := (true, "dc969d252041ce250cd5224d54b30a8418ec12c03183d9ba130f73760c90a750"), looks := false }, kinds := [], alts := [], laidByText := true, laidKinds := [.data, .data], laidTests := true, laidLooks := .later }
def IdealApartUptoCardSaid : Prop := Claim7.holds Tryd.pinned (.plain (OpenSpec.upto idealApartSpec)) idealApartUptoCard

/-- THE SECOND FORM's CARD OF 'mudlarklaw09.IdealPairs'. -/
def idealPairsUptoCard : Claim7 := { stood := { row := idealPairsUptoRow, standIns := [], harness := (true, "dc969d252041ce250cd5224d54b30a8418ec12c03183d9ba130f73760c90a750"), looks := false }, kinds := [], alts := [], laidByText := true, laidKinds := [.data, .data], laidTests := true, laidLooks := .later }
def IdealPairsUptoCardSaid : Prop := Claim7.holds Tryd.pinned (.plain (OpenSpec.upto idealPairsSpec)) idealPairsUptoCard

/-- THE SECOND FORM's CARD OF 'mudlarklaw09.IdealFull'. -/
def idealFullUptoCard : Claim7 := { stood := { row := idealFullUptoRow, standIns := [], harness := (true, "dc969d252041ce250cd5224d54b30a8418ec12c03183d9ba130f73760c90a750"), looks := false }, kinds := [], alts := [], laidByText := true, laidKinds := [.data, .data], laidTests := true, laidLooks := .later }
def IdealFullUptoCardSaid : Prop := Claim7.holds Tryd.pinned (.plain (OpenSpec.upto idealFullSpec)) idealFullUptoCard
end Rows
end Go.Proofs.YthlpmkjhiifibaaDoor
