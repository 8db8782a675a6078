/-
  DERIVED. GIVEN WITH THE SEED: THE CARDS: each row of YtjmbahdlgnobaaaDoorRows.lean that lists a variable, with what it lists TIED to the program's text (the seventh form; the later family's looks); each row that meets fmt, with fmt's text TOLD by the authors' own Lean function (tested against real Go, not proved from fmt's source: count such statements apart). THE CARD IS WHAT COUNTS. Prove the row's statement (the work); the ties are given (YtjmbahdlgnobaaaDoorTie.lean); close each card by the builder's one call (the guide's Derived/Test/ToyasCard.lean, 'card_holds'). Laid BY PROGRAM, IN A SANDBOX (cutbox-door.mjs). By AI agents, Wed Nov 11 2026. No macro, syntax, notation, axiom, sorry.
-/
import Derived.Test.YtjmbahdlgnobaaaDoorRows
import GoSem.ClaimSeven
namespace Go.Proofs.YtjmbahdlgnobaaaDoor
namespace Rows

/-- THE TIED CARD OF 'mudlarklaw17.BarSteps'. -/
def barStepsCard : Claim7 := { stood := { row := barStepsRow, standIns := [], harness := (true, "b8a653dd8c2ce572e2a83c72524788e46afdc2ade4cac1fa5eec3e1e9f4dd10b"), looks := false }, kinds := [], alts := [], laidByText := true, laidKinds := [.data], laidTests := true, laidLooks := .later }
def BarStepsCardSaid : Prop := Claim7.holds Tryd.pinned (.plain (OpenSpec.ofChange barStepsSpec)) barStepsCard

/-- THE TIED CARD OF 'mudlarklaw17.BarKeeps'. -/
def barKeepsCard : Claim7 := { stood := { row := barKeepsRow, standIns := [], harness := (true, "b8a653dd8c2ce572e2a83c72524788e46afdc2ade4cac1fa5eec3e1e9f4dd10b"), looks := false }, kinds := [], alts := [], laidByText := true, laidKinds := [.data], laidTests := true, laidLooks := .later }
def BarKeepsCardSaid : Prop := Claim7.holds Tryd.pinned (.plain (OpenSpec.ofChange barKeepsSpec)) barKeepsCard

/-- THE TIED CARD OF 'mudlarklaw17.BarOpens'. -/
def barOpensCard : Claim7 := { stood := { row := barOpensRow, standIns := [], harness := (true, "b8a653dd8c2ce572e2a83c72524788e46afdc2ade4cac1fa5eec3e1e9f4dd10b"), looks := false }, kinds := [], alts := [], laidByText := true, laidKinds := [.data], laidTests := true, laidLooks := .later }
def BarOpensCardSaid : Prop := Claim7.holds Tryd.pinned (.plain (OpenSpec.ofChange barOpensSpec)) barOpensCard

/-- THE TIED CARD OF 'mudlarklaw17.BarDirty'. -/
def barDirtyCard : Claim7 := { stood := { row := barDirtyRow, standIns := [], harness := (true, "b8a653dd8c2ce572e2a83c72524788e46afdc2ade4cac1fa5eec3e1e9f4dd10b"), looks := false }, kinds := [], alts := [], laidByText := true, laidKinds := [.data], laidTests := true, laidLooks := .later }
def BarDirtyCardSaid : Prop := Claim7.holds Tryd.pinned (.plain (OpenSpec.ofChange barDirtySpec)) barDirtyCard

/-- THE SECOND FORM's CARD OF 'mudlarklaw17.BarSteps'. -/
def barStepsUptoCard : Claim7 := { stood := { row := barStepsUptoRow, standIns := [], harness := (true, "b8a653dd8c2ce572e2a83c72524788e46afdc2ade4cac1fa5eec3e1e9f4dd10b"), looks := false }, kinds := [], alts := [], laidByText := true, laidKinds := [.data], laidTests := true, laidLooks := .later }
def BarStepsUptoCardSaid : Prop := Claim7.holds Tryd.pinned (.plain (OpenSpec.upto barStepsSpec)) barStepsUptoCard

/-- THE SECOND FORM's CARD OF 'mudlarklaw17.BarKeeps'. -/
def barKeepsUptoCard : Claim7 := { stood := { row := barKeepsUptoRow, standIns := [], harness := (true, "b8a653dd8c2ce572e2a83c72524788e46afdc2ade4cac1fa5eec3e1e9f4dd10b"), looks := false }, kinds := [], alts := [], laidByText := true, laidKinds := [.data], laidTests := true, laidLooks := .later }
def BarKeepsUptoCardSaid : Prop := Claim7.holds Tryd.pinned (.plain (OpenSpec.upto barKeepsSpec)) barKeepsUptoCard

/-- THE SECOND FORM's CARD OF 'mudlarklaw17.BarOpens'. -/
def barOpensUptoCard : Claim7 := { stood := { row := barOpensUptoRow, standIns := [], harness := (true, "b8a653dd8c2ce572e2a83c72524788e46afdc2ade4cac1fa5eec3e1e9f4dd10b"), looks := false }, kinds := [], alts := [], laidByText := true, laidKinds := [.data], laidTests := true, laidLooks := .later }
def BarOpensUptoCardSaid : Prop := Claim7.holds Tryd.pinned (.plain (OpenSpec.upto barOpensSpec)) barOpensUptoCard

/-- THE SECOND FORM's CARD OF 'mudlarklaw17.BarDirty'. -/
def barDirtyUptoCard : Claim7 := { stood := { row := barDirtyUptoRow, standIns := [], harness := (true, "b8a653dd8c2ce572e2a83c72524788e46afdc2ade4cac1fa5eec3e1e9f4dd10b"), looks := false }, kinds := [], alts := [], laidByText := true, laidKinds := [.data], laidTests := true, laidLooks := .later }
def BarDirtyUptoCardSaid : Prop := Claim7.holds Tryd.pinned (.plain (OpenSpec.upto barDirtySpec)) barDirtyUptoCard
end Rows
end Go.Proofs.YtjmbahdlgnobaaaDoor
