/-
  DERIVED. GIVEN WITH THE SEED: THE CARDS: each row of YtbpkdihonemogaaGreatDoorRows.lean that lists a variable, with what it lists TIED to the program's text (the seventh form; the later family's looks); each row that meets fmt, with fmt's text TOLD by the authors' own Lean function (tested against real Go, not proved from fmt's source: count such statements apart). THE CARD IS WHAT COUNTS. Prove the row's statement (the work); the ties are given (YtbpkdihonemogaaGreatDoorTie.lean); close each card by the builder's one call (the guide's Derived/Test/ToyasCard.lean, 'card_holds'). Laid BY PROGRAM, IN A SANDBOX (cutbox-door.mjs). By AI agents, Wed Nov 11 2026. No macro, syntax, notation, axiom, sorry.
-/
import Derived.Test.YtbpkdihonemogaaGreatDoorRows
import GoSem.ClaimSeven
namespace Go.Proofs.YtbpkdihonemogaaGreatDoor
namespace Rows

/-- THE TIED CARD OF 'mudlarklaw14.LispHolds'. -/
def lispHoldsCard : Claim7 := { stood := { row := lispHoldsRow, standIns := [], harness := (true, "04378b7af173aac581d3359c2c73b54436f59c38924a867171bb649119416489"), looks := false }, kinds := [], alts := [], laidByText := true, laidKinds := [.data], laidTests := true, laidLooks := .later }
def LispHoldsCardSaid : Prop := Claim7.holds Tryz.pinned (.plain (OpenSpec.ofChange lispHoldsSpec)) lispHoldsCard

/-- THE TIED CARD OF 'mudlarklaw14.LispAlone'. -/
def lispAloneCard : Claim7 := { stood := { row := lispAloneRow, standIns := [], harness := (true, "04378b7af173aac581d3359c2c73b54436f59c38924a867171bb649119416489"), looks := false }, kinds := [], alts := [], laidByText := true, laidKinds := [.data, .data], laidTests := true, laidLooks := .later }
def LispAloneCardSaid : Prop := Claim7.holds Tryz.pinned (.plain (OpenSpec.ofChange lispAloneSpec)) lispAloneCard

/-- THE TIED CARD OF 'mudlarklaw14.LispTouches'. -/
def lispTouchesCard : Claim7 := { stood := { row := lispTouchesRow, standIns := [], harness := (true, "04378b7af173aac581d3359c2c73b54436f59c38924a867171bb649119416489"), looks := false }, kinds := [], alts := [], laidByText := true, laidKinds := [.data], laidTests := true, laidLooks := .later }
def LispTouchesCardSaid : Prop := Claim7.holds Tryz.pinned (.plain (OpenSpec.ofChange lispTouchesSpec)) lispTouchesCard

/-- THE SECOND FORM's CARD OF 'mudlarklaw14.LispHolds'. -/
def lispHoldsUptoCard : Claim7 := { stood := { row := lispHoldsUptoRow, standIns := [], harness := (true, "04378b7af173aac581d3359c2c73b54436f59c38924a867171bb649119416489"), looks := false }, kinds := [], alts := [], laidByText := true, laidKinds := [.data], laidTests := true, laidLooks := .later }
def LispHoldsUptoCardSaid : Prop := Claim7.holds Tryz.pinned (.plain (OpenSpec.upto lispHoldsSpec)) lispHoldsUptoCard

/-- THE SECOND FORM's CARD OF 'mudlarklaw14.LispAlone'. -/
def lispAloneUptoCard : Claim7 := { stood := { row := lispAloneUptoRow, standIns := [], harness := (true, "04378b7af173aac581d3359c2c73b54436f59c38924a867171bb649119416489"), looks := false }, kinds := [], alts := [], laidByText := true, laidKinds := [.data, .data], laidTests := true, laidLooks := .later }
def LispAloneUptoCardSaid : Prop := Claim7.holds Tryz.pinned (.plain (OpenSpec.upto lispAloneSpec)) lispAloneUptoCard

/-- THE SECOND FORM's CARD OF 'mudlarklaw14.LispTouches'. -/
def lispTouchesUptoCard : Claim7 := { stood := { row := lispTouchesUptoRow, standIns := [], harness := (true, "04378b7af173aac581d3359c2c73b54436f59c38924a867171bb649119416489"), looks := false }, kinds := [], alts := [], laidByText := true, laidKinds := [.data], laidTests := true, laidLooks := .later }
def LispTouchesUptoCardSaid : Prop := Claim7.holds Tryz.pinned (.plain (OpenSpec.upto lispTouchesSpec)) lispTouchesUptoCard
end Rows
end Go.Proofs.YtbpkdihonemogaaGreatDoor
