/-
  DERIVED. GIVEN WITH THE SEED: THE CARDS: each row of YtckmdkebacbcjaaDoorRows.lean that lists a variable, with what it lists TIED to the program's text (the seventh form; the later family's looks); each row that meets fmt, with fmt's text TOLD by the authors' own Lean function (tested against real Go, not proved from fmt's source: count such statements apart). THE CARD IS WHAT COUNTS. Prove the row's statement (the work); the ties are given (YtckmdkebacbcjaaDoorTie.lean); close each card by the builder's one call (the guide's Derived/Test/ToyasCard.lean, 'card_holds'). Laid BY PROGRAM, IN A SANDBOX (cutbox-door.mjs). By AI agents, Wed Nov 11 2026. No macro, syntax, notation, axiom, sorry.
-/
import Derived.Test.YtckmdkebacbcjaaDoorRows
import GoSem.ClaimSeven
namespace Go.Proofs.YtckmdkebacbcjaaDoor
namespace Rows

/-- THE TIED CARD OF 'mudlarklaw10.BarrierSteps'. -/
def barrierStepsCard : Claim7 := { stood := { row := barrierStepsRow, standIns := [], harness := (true, "ab5817cd2f46b8a748df4b6afb1ff2eb2547fe738897595d4259af4d09ebba27"), looks := false }, kinds := [], alts := [], laidByText := true, laidKinds := [.data], laidTests := true, laidLooks := .later }
def BarrierStepsCardSaid : Prop := Claim7.holds Tryd.pinned (.plain (OpenSpec.ofChange barrierStepsSpec)) barrierStepsCard

/-- THE TIED CARD OF 'mudlarklaw10.BarrierBegins'. -/
def barrierBeginsCard : Claim7 := { stood := { row := barrierBeginsRow, standIns := [], harness := (true, "ab5817cd2f46b8a748df4b6afb1ff2eb2547fe738897595d4259af4d09ebba27"), looks := false }, kinds := [], alts := [], laidByText := true, laidKinds := [.data], laidTests := true, laidLooks := .later }
def BarrierBeginsCardSaid : Prop := Claim7.holds Tryd.pinned (.plain (OpenSpec.ofChange barrierBeginsSpec)) barrierBeginsCard

/-- THE TIED CARD OF 'mudlarklaw10.BarrierShades'. -/
def barrierShadesCard : Claim7 := { stood := { row := barrierShadesRow, standIns := [], harness := (true, "ab5817cd2f46b8a748df4b6afb1ff2eb2547fe738897595d4259af4d09ebba27"), looks := false }, kinds := [], alts := [], laidByText := true, laidKinds := [.data], laidTests := true, laidLooks := .later }
def BarrierShadesCardSaid : Prop := Claim7.holds Tryd.pinned (.plain (OpenSpec.ofChange barrierShadesSpec)) barrierShadesCard

/-- THE TIED CARD OF 'mudlarklaw10.BarrierTwice'. -/
def barrierTwiceCard : Claim7 := { stood := { row := barrierTwiceRow, standIns := [], harness := (true, "ab5817cd2f46b8a748df4b6afb1ff2eb2547fe738897595d4259af4d09ebba27"), looks := false }, kinds := [], alts := [], laidByText := true, laidKinds := [.data], laidTests := true, laidLooks := .later }
def BarrierTwiceCardSaid : Prop := Claim7.holds Tryd.pinned (.plain (OpenSpec.ofChange barrierTwiceSpec)) barrierTwiceCard

/-- THE SECOND FORM's CARD OF 'mudlarklaw10.BarrierSteps'. -/
def barrierStepsUptoCard : Claim7 := { stood := { row := barrierStepsUptoRow, standIns := [], harness := (true, "ab5817cd2f46b8a748df4b6afb1ff2eb2547fe738897595d4259af4d09ebba27"), looks := false }, kinds := [], alts := [], laidByText := true, laidKinds := [.data], laidTests := true, laidLooks := .later }
def BarrierStepsUptoCardSaid : Prop := Claim7.holds Tryd.pinned (.plain (OpenSpec.upto barrierStepsSpec)) barrierStepsUptoCard

/-- THE SECOND FORM's CARD OF 'mudlarklaw10.BarrierBegins'. -/
def barrierBeginsUptoCard : Claim7 := { stood := { row := barrierBeginsUptoRow, standIns := [], harness := (true, "ab5817cd2f46b8a748df4b6afb1ff2eb2547fe738897595d4259af4d09ebba27"), looks := false }, kinds := [], alts := [], laidByText := true, laidKinds := [.data], laidTests := true, laidLooks := .later }
def BarrierBeginsUptoCardSaid : Prop := Claim7.holds Tryd.pinned (.plain (OpenSpec.upto barrierBeginsSpec)) barrierBeginsUptoCard

/-- THE SECOND FORM's CARD OF 'mudlarklaw10.BarrierShades'. -/
def barrierShadesUptoCard : Claim7 := { stood := { row := barrierShadesUptoRow, standIns := [], harness := (true, "ab5817cd2f46b8a748df4b6afb1ff2eb2547fe738897595d4259af4d09ebba27"), looks := false }, kinds := [], alts := [], laidByText := true, laidKinds := [.data], laidTests := true, laidLooks := .later }
def BarrierShadesUptoCardSaid : Prop := Claim7.holds Tryd.pinned (.plain (OpenSpec.upto barrierShadesSpec)) barrierShadesUptoCard

/-- THE SECOND FORM's CARD OF 'mudlarklaw10.BarrierTwice'. -/
def barrierTwiceUptoCard : Claim7 := { stood := { row := barrierTwiceUptoRow, standIns := [], harness := (true, "ab5817cd2f46b8a748df4b6afb1ff2eb2547fe738897595d4259af4d09ebba27"), looks := false }, kinds := [], alts := [], laidByText := true, laidKinds := [.data], laidTests := true, laidLooks := .later }
def BarrierTwiceUptoCardSaid : Prop := Claim7.holds Tryd.pinned (.plain (OpenSpec.upto barrierTwiceSpec)) barrierTwiceUptoCard
end Rows
end Go.Proofs.YtckmdkebacbcjaaDoor
