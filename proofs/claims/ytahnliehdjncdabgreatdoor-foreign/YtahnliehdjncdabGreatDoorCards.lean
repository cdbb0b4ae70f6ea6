/-
  DERIVED. GIVEN WITH THE SEED: THE CARDS: each row of YtahnliehdjncdabGreatDoorRows.lean that lists a variable, with what it lists TIED to the program's text (the seventh form; the later family's looks); each row that meets fmt, with fmt's text TOLD by the authors' own Lean function (tested against real Go, not proved from fmt's source: count such statements apart). THE CARD IS WHAT COUNTS. Prove the row's statement (the work); the ties are given (YtahnliehdjncdabGreatDoorTie.lean); close each card by the builder's one call (the guide's Derived/Test/ToyasCard.lean, 'card_holds'). Laid BY PROGRAM, IN A SANDBOX (cutbox-door.mjs). By AI agents, Wed Nov 11 2026. No macro, syntax, notation, axiom, sorry.
-/
import Derived.Test.YtahnliehdjncdabGreatDoorRows
import GoSem.ClaimSeven
namespace Go.Proofs.YtahnliehdjncdabGreatDoor
namespace Rows

/-- THE TIED CARD OF 'sketchkeep.Resumed'. -/
def resumedCard : Claim7 := { stood := { row := resumedRow, standIns := [], harness := (true, "bebc57dfbe391ba57a84ce6f500de4a3e70f31a7be12390df5c9ac9b0add9cf4"), looks := false }, kinds := [], alts := [], laidByText := true, laidKinds := [.data], laidTests := true, laidLooks := .later }
def ResumedCardSaid : Prop := Claim7.holds Tryz.pinned (.plain (OpenSpec.ofChange resumedSpec)) resumedCard

/-- THE TIED CARD OF 'sketchkeep.Foreign'. -/
def foreignCard : Claim7 := { stood := { row := foreignRow, standIns := [], harness := (true, "bebc57dfbe391ba57a84ce6f500de4a3e70f31a7be12390df5c9ac9b0add9cf4"), looks := false }, kinds := [], alts := [], laidByText := true, laidKinds := [.data], laidTests := true, laidLooks := .later }
def ForeignCardSaid : Prop := Claim7.holds Tryz.pinned (.plain (OpenSpec.ofChange foreignSpec)) foreignCard

/-- THE TIED CARD OF 'sketchkeep.Small'. -/
def smallCard : Claim7 := { stood := { row := smallRow, standIns := [], harness := (true, "bebc57dfbe391ba57a84ce6f500de4a3e70f31a7be12390df5c9ac9b0add9cf4"), looks := false }, kinds := [], alts := [], laidByText := true, laidKinds := [.data], laidTests := true, laidLooks := .later }
def SmallCardSaid : Prop := Claim7.holds Tryz.pinned (.plain (OpenSpec.ofChange smallSpec)) smallCard

/-- THE TIED CARD OF 'sketchlaw.Fresh'. -/
def freshCard : Claim7 := { stood := { row := freshRow, standIns := [], harness := (true, "bebc57dfbe391ba57a84ce6f500de4a3e70f31a7be12390df5c9ac9b0add9cf4"), looks := false }, kinds := [], alts := [], laidByText := true, laidKinds := [.data], laidTests := true, laidLooks := .later }
def FreshCardSaid : Prop := Claim7.holds Tryz.pinned (.plain (OpenSpec.ofChange freshSpec)) freshCard

/-- THE SECOND FORM's CARD OF 'sketchkeep.Resumed'. -/
def resumedUptoCard : Claim7 := { stood := { row := resumedUptoRow, standIns := [], harness := (true, "bebc57dfbe391ba57a84ce6f500de4a3e70f31a7be12390df5c9ac9b0add9cf4"), looks := false }, kinds := [], alts := [], laidByText := true, laidKinds := [.data], laidTests := true, laidLooks := .later }
def ResumedUptoCardSaid : Prop := Claim7.holds Tryz.pinned (.plain (OpenSpec.upto resumedSpec)) resumedUptoCard

/-- THE SECOND FORM's CARD OF 'sketchkeep.Foreign'. -/
def foreignUptoCard : Claim7 := { stood := { row := foreignUptoRow, standIns := [], harness := (true, "bebc57dfbe391ba57a84ce6f500de4a3e70f31a7be12390df5c9ac9b0add9cf4"), looks := false }, kinds := [], alts := [], laidByText := true, laidKinds := [.data], laidTests := true, laidLooks := .later }
def ForeignUptoCardSaid : Prop := Claim7.holds Tryz.pinned (.plain (OpenSpec.upto foreignSpec)) foreignUptoCard

/-- THE SECOND FORM's CARD OF 'sketchkeep.Small'. -/
def smallUptoCard : Claim7 := { stood := { row := smallUptoRow, standIns := [], harness := (true, "bebc57dfbe391ba57a84ce6f500de4a3e70f31a7be12390df5c9ac9b0add9cf4"), looks := false }, kinds := [], alts := [], laidByText := true, laidKinds := [.data], laidTests := true, laidLooks := .later }
def SmallUptoCardSaid : Prop := Claim7.holds Tryz.pinned (.plain (OpenSpec.upto smallSpec)) smallUptoCard

/-- THE SECOND FORM's CARD OF 'sketchlaw.Fresh'. -/
def freshUptoCard : Claim7 := { stood := { row := freshUptoRow, standIns := [], harness := (true, "bebc57dfbe391ba57a84ce6f500de4a3e70f31a7be12390df5c9ac9b0add9cf4"), looks := false }, kinds := [], alts := [], laidByText := true, laidKinds := [.data], laidTests := true, laidLooks := .later }
def FreshUptoCardSaid : Prop := Claim7.holds Tryz.pinned (.plain (OpenSpec.upto freshSpec)) freshUptoCard
end Rows
end Go.Proofs.YtahnliehdjncdabGreatDoor
