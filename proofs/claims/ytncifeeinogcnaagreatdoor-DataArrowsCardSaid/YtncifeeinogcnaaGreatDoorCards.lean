/-
  DERIVED. GIVEN WITH THE SEED: THE CARDS: each row of YtncifeeinogcnaaGreatDoorRows.lean that lists a variable, with what it lists TIED to the program's text (the seventh form; the later family's looks); each row that meets fmt, with fmt's text TOLD by the authors' own Lean function (tested against real Go, not proved from fmt's source: count such statements apart). THE CARD IS WHAT COUNTS. Prove the row's statement (the work); the ties are given (YtncifeeinogcnaaGreatDoorTie.lean); close each card by the builder's one call (the guide's Derived/Test/ToyasCard.lean, 'card_holds'). Laid BY PROGRAM, IN A SANDBOX (cutbox-door.mjs). By AI agents, Wed Nov 11 2026. No macro, syntax, notation, axiom, sorry.
-/
import Derived.Test.YtncifeeinogcnaaGreatDoorRows
import GoSem.ClaimSeven
namespace Go.Proofs.YtncifeeinogcnaaGreatDoor
namespace Rows

/-- THE TIED CARD OF 'triglyphlaw09.TypTells'. -/
def typTellsCard : Claim7 := { stood := { row := typTellsRow, standIns := [], harness := (true, "ed3a5dbc7abe0a173e8b692ce69efa4f75ff1be1643037624c87f40ec2f88591"), looks := false }, kinds := [], alts := [], laidByText := true, laidKinds := [.data, .data, .data], laidTests := true, laidLooks := .later }
def TypTellsCardSaid : Prop := Claim7.holds Tryz.pinned (.plain (OpenSpec.ofChange typTellsSpec)) typTellsCard

/-- THE TIED CARD OF 'triglyphlaw09.TypSame'. -/
def typSameCard : Claim7 := { stood := { row := typSameRow, standIns := [], harness := (true, "ed3a5dbc7abe0a173e8b692ce69efa4f75ff1be1643037624c87f40ec2f88591"), looks := false }, kinds := [], alts := [], laidByText := true, laidKinds := [.data, .data, .data], laidTests := true, laidLooks := .later }
def TypSameCardSaid : Prop := Claim7.holds Tryz.pinned (.plain (OpenSpec.ofChange typSameSpec)) typSameCard

/-- THE TIED CARD OF 'triglyphlaw09.TypTurned'. -/
def typTurnedCard : Claim7 := { stood := { row := typTurnedRow, standIns := [], harness := (true, "ed3a5dbc7abe0a173e8b692ce69efa4f75ff1be1643037624c87f40ec2f88591"), looks := false }, kinds := [], alts := [], laidByText := true, laidKinds := [.data, .data, .data], laidTests := true, laidLooks := .later }
def TypTurnedCardSaid : Prop := Claim7.holds Tryz.pinned (.plain (OpenSpec.ofChange typTurnedSpec)) typTurnedCard

/-- THE TIED CARD OF 'triglyphlaw09.TypCanons'. -/
def typCanonsCard : Claim7 := { stood := { row := typCanonsRow, standIns := [], harness := (true, "ed3a5dbc7abe0a173e8b692ce69efa4f75ff1be1643037624c87f40ec2f88591"), looks := false }, kinds := [], alts := [], laidByText := true, laidKinds := [.data, .data, .data], laidTests := true, laidLooks := .later }
def TypCanonsCardSaid : Prop := Claim7.holds Tryz.pinned (.plain (OpenSpec.ofChange typCanonsSpec)) typCanonsCard

/-- THE TIED CARD OF 'triglyphlaw10.DataChecks'. -/
def dataChecksCard : Claim7 := { stood := { row := dataChecksRow, standIns := [], harness := (true, "ed3a5dbc7abe0a173e8b692ce69efa4f75ff1be1643037624c87f40ec2f88591"), looks := false }, kinds := [], alts := [], laidByText := true, laidKinds := [.data, .data, .data], laidTests := true, laidLooks := .later }
def DataChecksCardSaid : Prop := Claim7.holds Tryz.pinned (.plain (OpenSpec.ofChange dataChecksSpec)) dataChecksCard

/-- THE TIED CARD OF 'triglyphlaw10.DataArrows'. -/
def dataArrowsCard : Claim7 := { stood := { row := dataArrowsRow, standIns := [], harness := (true, "ed3a5dbc7abe0a173e8b692ce69efa4f75ff1be1643037624c87f40ec2f88591"), looks := false }, kinds := [], alts := [], laidByText := true, laidKinds := [.data, .data, .data], laidTests := true, laidLooks := .later }
def DataArrowsCardSaid : Prop := Claim7.holds Tryz.pinned (.plain (OpenSpec.ofChange dataArrowsSpec)) dataArrowsCard

/-- THE SECOND FORM's CARD OF 'triglyphlaw09.TypTells'. -/
def typTellsUptoCard : Claim7 := { stood := { row := typTellsUptoRow, standIns := [], harness := (true, "ed3a5dbc7abe0a173e8b692ce69efa4f75ff1be1643037624c87f40ec2f88591"), looks := false }, kinds := [], alts := [], laidByText := true, laidKinds := [.data, .data, .data], laidTests := true, laidLooks := .later }
def TypTellsUptoCardSaid : Prop := Claim7.holds Tryz.pinned (.plain (OpenSpec.upto typTellsSpec)) typTellsUptoCard

/-- THE SECOND FORM's CARD OF 'triglyphlaw09.TypSame'. -/
def typSameUptoCard : Claim7 := { stood := { row := typSameUptoRow, standIns := [], harness := (true, "ed3a5dbc7abe0a173e8b692ce69efa4f75ff1be1643037624c87f40ec2f88591"), looks := false }, kinds := [], alts := [], laidByText := true, laidKinds := [.data, .data, .data], laidTests := true, laidLooks := .later }
def TypSameUptoCardSaid : Prop := Claim7.holds Tryz.pinned (.plain (OpenSpec.upto typSameSpec)) typSameUptoCard

/-- THE SECOND FORM's CARD OF 'triglyphlaw09.TypTurned'. -/
def typTurnedUptoCard : Claim7 := { stood := { row := typTurnedUptoRow, standIns := [], harness := (true, "ed3a5dbc7abe0a173e8b692ce69efa4f75ff1be1643037624c87f40ec2f88591"), looks := false }, kinds := [], alts := [], laidByText := true, laidKinds := [.data, .data, .data], laidTests := true, laidLooks := .later }
def TypTurnedUptoCardSaid : Prop := Claim7.holds Tryz.pinned (.plain (OpenSpec.upto typTurnedSpec)) typTurnedUptoCard

/-- THE SECOND FORM's CARD OF 'triglyphlaw09.TypCanons'. -/
def typCanonsUptoCard : Claim7 := { stood := { row := typCanonsUptoRow, standIns := [], harness := (true, "ed3a5dbc7abe0a173e8b692ce69efa4f75ff1be1643037624c87f40ec2f88591"), looks := false }, kinds := [], alts := [], laidByText := true, laidKinds := [.data, .data, .data], laidTests := true, laidLooks := .later }
def TypCanonsUptoCardSaid : Prop := Claim7.holds Tryz.pinned (.plain (OpenSpec.upto typCanonsSpec)) typCanonsUptoCard

/-- THE SECOND FORM's CARD OF 'triglyphlaw10.DataChecks'. -/
def dataChecksUptoCard : Claim7 := { stood := { row := dataChecksUptoRow, standIns := [], harness := (true, "ed3a5dbc7abe0a173e8b692ce69efa4f75ff1be1643037624c87f40ec2f88591"), looks := false }, kinds := [], alts := [], laidByText := true, laidKinds := [.data, .data, .data], laidTests := true, laidLooks := .later }
def DataChecksUptoCardSaid : Prop := Claim7.holds Tryz.pinned (.plain (OpenSpec.upto dataChecksSpec)) dataChecksUptoCard

/-- THE SECOND FORM's CARD OF 'triglyphlaw10.DataArrows'. -/
def dataArrowsUptoCard : Claim7 := { stood := { row := dataArrowsUptoRow, standIns := [], harness := (true, "ed3a5dbc7abe0a173e8b692ce69efa4f75ff1be1643037624c87f40ec2f88591"), looks := false }, kinds := [], alts := [], laidByText := true, laidKinds := [.data, .data, .data], laidTests := true, laidLooks := .later }
def DataArrowsUptoCardSaid : Prop := Claim7.holds Tryz.pinned (.plain (OpenSpec.upto dataArrowsSpec)) dataArrowsUptoCard
end Rows
end Go.Proofs.YtncifeeinogcnaaGreatDoor
