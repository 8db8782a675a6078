/-
  DERIVED. GIVEN WITH THE SEED: THE CARDS: each row of YtbpooljohjkbjaaGreatDoorRows.lean that lists a variable, with what it lists TIED to the program's text (the seventh form; the later family's looks); each row that meets fmt, with fmt's text TOLD by the authors' own Lean function (tested against real Go, not proved from fmt's source: count such statements apart). THE CARD IS WHAT COUNTS. Prove the row's statement (the work); the ties are given (YtbpooljohjkbjaaGreatDoorTie.lean); close each card by the builder's one call (the guide's Derived/Test/ToyasCard.lean, 'card_holds'). Laid BY PROGRAM, IN A SANDBOX (cutbox-door.mjs). By AI agents, Wed Nov 11 2026. No macro, syntax, notation, axiom, sorry.
-/
import Derived.Test.YtbpooljohjkbjaaGreatDoorRows
import GoSem.ClaimSeven
namespace Go.Proofs.YtbpooljohjkbjaaGreatDoor
namespace Rows

/-- THE TIED CARD OF 'mudlarklaw20.WorldPicks'. -/
def worldPicksCard : Claim7 := { stood := { row := worldPicksRow, standIns := [], harness := (true, "5494c4ee6706e96498856d5ce7e68ec33e825ba575aa25f5b1516fce8cfdd07d"), looks := false }, kinds := [], alts := [], laidByText := true, laidKinds := [.data, .data], laidTests := true, laidLooks := .later }
def WorldPicksCardSaid : Prop := Claim7.holds Tryz.pinned (.plain (OpenSpec.ofChange worldPicksSpec)) worldPicksCard

/-- THE TIED CARD OF 'mudlarklaw20.WorldAccess'. -/
def worldAccessCard : Claim7 := { stood := { row := worldAccessRow, standIns := [], harness := (true, "5494c4ee6706e96498856d5ce7e68ec33e825ba575aa25f5b1516fce8cfdd07d"), looks := false }, kinds := [], alts := [], laidByText := true, laidKinds := [.data, .data], laidTests := true, laidLooks := .later }
def WorldAccessCardSaid : Prop := Claim7.holds Tryz.pinned (.plain (OpenSpec.ofChange worldAccessSpec)) worldAccessCard

/-- THE TIED CARD OF 'mudlarklaw20.WorldRuns'. -/
def worldRunsCard : Claim7 := { stood := { row := worldRunsRow, standIns := [], harness := (true, "5494c4ee6706e96498856d5ce7e68ec33e825ba575aa25f5b1516fce8cfdd07d"), looks := false }, kinds := [], alts := [], laidByText := true, laidKinds := [.data, .data], laidTests := true, laidLooks := .later }
def WorldRunsCardSaid : Prop := Claim7.holds Tryz.pinned (.plain (OpenSpec.ofChange worldRunsSpec)) worldRunsCard

/-- THE TIED CARD OF 'mudlarklaw20.WorldNotes'. -/
def worldNotesCard : Claim7 := { stood := { row := worldNotesRow, standIns := [], harness := (true, "5494c4ee6706e96498856d5ce7e68ec33e825ba575aa25f5b1516fce8cfdd07d"), looks := false }, kinds := [], alts := [], laidByText := true, laidKinds := [.data, .data], laidTests := true, laidLooks := .later }
def WorldNotesCardSaid : Prop := Claim7.holds Tryz.pinned (.plain (OpenSpec.ofChange worldNotesSpec)) worldNotesCard

/-- THE TIED CARD OF 'mudlarklaw20.WorldAlone'. -/
def worldAloneCard : Claim7 := { stood := { row := worldAloneRow, standIns := [], harness := (true, "5494c4ee6706e96498856d5ce7e68ec33e825ba575aa25f5b1516fce8cfdd07d"), looks := false }, kinds := [], alts := [], laidByText := true, laidKinds := [.data, .data], laidTests := true, laidLooks := .later }
def WorldAloneCardSaid : Prop := Claim7.holds Tryz.pinned (.plain (OpenSpec.ofChange worldAloneSpec)) worldAloneCard

/-- THE SECOND FORM's CARD OF 'mudlarklaw20.WorldPicks'. -/
def worldPicksUptoCard : Claim7 := { stood := { row := worldPicksUptoRow, standIns := [], harness := (true, "5494c4ee6706e96498856d5ce7e68ec33e825ba575aa25f5b1516fce8cfdd07d"), looks := false }, kinds := [], alts := [], laidByText := true, laidKinds := [.data, .data], laidTests := true, laidLooks := .later }
def WorldPicksUptoCardSaid : Prop := Claim7.holds Tryz.pinned (.plain (OpenSpec.upto worldPicksSpec)) worldPicksUptoCard

/-- THE SECOND FORM's CARD OF 'mudlarklaw20.WorldAccess'. -/
def worldAccessUptoCard : Claim7 := { stood := { row := worldAccessUptoRow, standIns := [], harness := (true, "5494c4ee6706e96498856d5ce7e68ec33e825ba575aa25f5b1516fce8cfdd07d"), looks := false }, kinds := [], alts := [], laidByText := true, laidKinds := [.data, .data], laidTests := true, laidLooks := .later }
def WorldAccessUptoCardSaid : Prop := Claim7.holds Tryz.pinned (.plain (OpenSpec.upto worldAccessSpec)) worldAccessUptoCard

/-- THE SECOND FORM's CARD OF 'mudlarklaw20.WorldRuns'. -/
def worldRunsUptoCard : Claim7 := { stood := { row := worldRunsUptoRow, standIns := [], harness := (true, "5494c4ee6706e96498856d5ce7e68ec33e825ba575aa25f5b1516fce8cfdd07d"), looks := false }, kinds := [], alts := [], laidByText := true, laidKinds := [.data, .data], laidTests := true, laidLooks := .later }
def WorldRunsUptoCardSaid : Prop := Claim7.holds Tryz.pinned (.plain (OpenSpec.upto worldRunsSpec)) worldRunsUptoCard

/-- THE SECOND FORM's CARD OF 'mudlarklaw20.WorldNotes'. -/
def worldNotesUptoCard : Claim7 := { stood := { row := worldNotesUptoRow, standIns := [], harness := (true, "5494c4ee6706e96498856d5ce7e68ec33e825ba575aa25f5b1516fce8cfdd07d"), looks := false }, kinds := [], alts := [], laidByText := true, laidKinds := [.data, .data], laidTests := true, laidLooks := .later }
def WorldNotesUptoCardSaid : Prop := Claim7.holds Tryz.pinned (.plain (OpenSpec.upto worldNotesSpec)) worldNotesUptoCard

/-- THE SECOND FORM's CARD OF 'mudlarklaw20.WorldAlone'. -/
def worldAloneUptoCard : Claim7 := { stood := { row := worldAloneUptoRow, standIns := [], harness := (true, "5494c4ee6706e96498856d5ce7e68ec33e825ba575aa25f5b1516fce8cfdd07d"), looks := false }, kinds := [], alts := [], laidByText := true, laidKinds := [.data, .data], laidTests := true, laidLooks := .later }
def WorldAloneUptoCardSaid : Prop := Claim7.holds Tryz.pinned (.plain (OpenSpec.upto worldAloneSpec)) worldAloneUptoCard
end Rows
end Go.Proofs.YtbpooljohjkbjaaGreatDoor
