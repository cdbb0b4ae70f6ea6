/-
  DERIVED. GIVEN WITH THE SEED: THE CARDS: each row of YtahnliehdjncdaaGreatDoorRows.lean that lists a variable, with what it lists TIED to the program's text (the seventh form; the later family's looks); each row that meets fmt, with fmt's text TOLD by the authors' own Lean function (tested against real Go, not proved from fmt's source: count such statements apart). THE CARD IS WHAT COUNTS. Prove the row's statement (the work); the ties are given (YtahnliehdjncdaaGreatDoorTie.lean); close each card by the builder's one call (the guide's Derived/Test/ToyasCard.lean, 'card_holds'). Laid BY PROGRAM, IN A SANDBOX (cutbox-door.mjs). By AI agents, Wed Nov 11 2026. No macro, syntax, notation, axiom, sorry.
-/
import Derived.Test.YtahnliehdjncdaaGreatDoorRows
import GoSem.ClaimSeven
namespace Go.Proofs.YtahnliehdjncdaaGreatDoor
namespace Rows

/-- THE TIED CARD OF 'sketchlaw.Admits'. -/
def admitsCard : Claim7 := { stood := { row := admitsRow, standIns := [], harness := (true, "15b9ff15b195e9e427d0f5c5c3c4c2bd650d095ed3780e09b476af566e27ae6d"), looks := false }, kinds := [], alts := [], laidByText := true, laidKinds := [.data], laidTests := true, laidLooks := .later }
def AdmitsCardSaid : Prop := Claim7.holds Tryz.pinned (.plain (OpenSpec.ofChange admitsSpec)) admitsCard

/-- THE TIED CARD OF 'sketchlaw.Weighs'. -/
def weighsCard : Claim7 := { stood := { row := weighsRow, standIns := [], harness := (true, "15b9ff15b195e9e427d0f5c5c3c4c2bd650d095ed3780e09b476af566e27ae6d"), looks := false }, kinds := [], alts := [], laidByText := true, laidKinds := [.data], laidTests := true, laidLooks := .later }
def WeighsCardSaid : Prop := Claim7.holds Tryz.pinned (.plain (OpenSpec.ofChange weighsSpec)) weighsCard

/-- THE TIED CARD OF 'sketchkeep.Prefix'. -/
def prefixCard : Claim7 := { stood := { row := prefixRow, standIns := [], harness := (true, "15b9ff15b195e9e427d0f5c5c3c4c2bd650d095ed3780e09b476af566e27ae6d"), looks := false }, kinds := [], alts := [], laidByText := true, laidKinds := [.data], laidTests := true, laidLooks := .later }
def PrefixCardSaid : Prop := Claim7.holds Tryz.pinned (.plain (OpenSpec.ofChange prefixSpec)) prefixCard

/-- THE TIED CARD OF 'sketchkeep.Refused'. -/
def refusedCard : Claim7 := { stood := { row := refusedRow, standIns := [], harness := (true, "15b9ff15b195e9e427d0f5c5c3c4c2bd650d095ed3780e09b476af566e27ae6d"), looks := false }, kinds := [], alts := [], laidByText := true, laidKinds := [.data], laidTests := true, laidLooks := .later }
def RefusedCardSaid : Prop := Claim7.holds Tryz.pinned (.plain (OpenSpec.ofChange refusedSpec)) refusedCard

/-- THE TIED CARD OF 'sketchlaw.Counts'. -/
def countsCard : Claim7 := { stood := { row := countsRow, standIns := [], harness := (true, "15b9ff15b195e9e427d0f5c5c3c4c2bd650d095ed3780e09b476af566e27ae6d"), looks := false }, kinds := [], alts := [], laidByText := true, laidKinds := [.data], laidTests := true, laidLooks := .later }
def CountsCardSaid : Prop := Claim7.holds Tryz.pinned (.plain (OpenSpec.ofChange countsSpec)) countsCard

/-- THE TIED CARD OF 'sketchkeep.Bound'. -/
def boundCard : Claim7 := { stood := { row := boundRow, standIns := [], harness := (true, "15b9ff15b195e9e427d0f5c5c3c4c2bd650d095ed3780e09b476af566e27ae6d"), looks := false }, kinds := [], alts := [], laidByText := true, laidKinds := [.data], laidTests := true, laidLooks := .later }
def BoundCardSaid : Prop := Claim7.holds Tryz.pinned (.plain (OpenSpec.ofChange boundSpec)) boundCard

/-- THE TIED CARD OF 'sketchkeep.Budgets'. -/
def budgetsCard : Claim7 := { stood := { row := budgetsRow, standIns := [], harness := (true, "15b9ff15b195e9e427d0f5c5c3c4c2bd650d095ed3780e09b476af566e27ae6d"), looks := false }, kinds := [], alts := [], laidByText := true, laidKinds := [.data], laidTests := true, laidLooks := .later }
def BudgetsCardSaid : Prop := Claim7.holds Tryz.pinned (.plain (OpenSpec.ofChange budgetsSpec)) budgetsCard

/-- THE TIED CARD OF 'sketchlaw.Asks'. -/
def asksCard : Claim7 := { stood := { row := asksRow, standIns := [], harness := (true, "15b9ff15b195e9e427d0f5c5c3c4c2bd650d095ed3780e09b476af566e27ae6d"), looks := false }, kinds := [], alts := [], laidByText := true, laidKinds := [.data], laidTests := true, laidLooks := .later }
def AsksCardSaid : Prop := Claim7.holds Tryz.pinned (.plain (OpenSpec.ofChange asksSpec)) asksCard

/-- THE TIED CARD OF 'sketchkeep.Least'. -/
def leastCard : Claim7 := { stood := { row := leastRow, standIns := [], harness := (true, "15b9ff15b195e9e427d0f5c5c3c4c2bd650d095ed3780e09b476af566e27ae6d"), looks := false }, kinds := [], alts := [], laidByText := true, laidKinds := [.data], laidTests := true, laidLooks := .later }
def LeastCardSaid : Prop := Claim7.holds Tryz.pinned (.plain (OpenSpec.ofChange leastSpec)) leastCard

/-- THE TIED CARD OF 'sketchkeep.Chosen'. -/
def chosenCard : Claim7 := { stood := { row := chosenRow, standIns := [], harness := (true, "15b9ff15b195e9e427d0f5c5c3c4c2bd650d095ed3780e09b476af566e27ae6d"), looks := false }, kinds := [], alts := [], laidByText := true, laidKinds := [.data], laidTests := true, laidLooks := .later }
def ChosenCardSaid : Prop := Claim7.holds Tryz.pinned (.plain (OpenSpec.ofChange chosenSpec)) chosenCard

/-- THE TIED CARD OF 'sketchkeep.Windows'. -/
def windowsCard : Claim7 := { stood := { row := windowsRow, standIns := [], harness := (true, "15b9ff15b195e9e427d0f5c5c3c4c2bd650d095ed3780e09b476af566e27ae6d"), looks := false }, kinds := [], alts := [], laidByText := true, laidKinds := [.data], laidTests := true, laidLooks := .later }
def WindowsCardSaid : Prop := Claim7.holds Tryz.pinned (.plain (OpenSpec.ofChange windowsSpec)) windowsCard

/-- THE TIED CARD OF 'sketchlaw.Runs'. -/
def runsCard : Claim7 := { stood := { row := runsRow, standIns := [], harness := (true, "15b9ff15b195e9e427d0f5c5c3c4c2bd650d095ed3780e09b476af566e27ae6d"), looks := false }, kinds := [], alts := [], laidByText := true, laidKinds := [.data], laidTests := true, laidLooks := .later }
def RunsCardSaid : Prop := Claim7.holds Tryz.pinned (.plain (OpenSpec.ofChange runsSpec)) runsCard

/-- THE SECOND FORM's CARD OF 'sketchlaw.Admits'. -/
def admitsUptoCard : Claim7 := { stood := { row := admitsUptoRow, standIns := [], harness := (true, "15b9ff15b195e9e427d0f5c5c3c4c2bd650d095ed3780e09b476af566e27ae6d"), looks := false }, kinds := [], alts := [], laidByText := true, laidKinds := [.data], laidTests := true, laidLooks := .later }
def AdmitsUptoCardSaid : Prop := Claim7.holds Tryz.pinned (.plain (OpenSpec.upto admitsSpec)) admitsUptoCard

/-- THE SECOND FORM's CARD OF 'sketchlaw.Weighs'. -/
def weighsUptoCard : Claim7 := { stood := { row := weighsUptoRow, standIns := [], harness := (true, "15b9ff15b195e9e427d0f5c5c3c4c2bd650d095ed3780e09b476af566e27ae6d"), looks := false }, kinds := [], alts := [], laidByText := true, laidKinds := [.data], laidTests := true, laidLooks := .later }
def WeighsUptoCardSaid : Prop := Claim7.holds Tryz.pinned (.plain (OpenSpec.upto weighsSpec)) weighsUptoCard

/-- THE SECOND FORM's CARD OF 'sketchkeep.Prefix'. -/
def prefixUptoCard : Claim7 := { stood := { row := prefixUptoRow, standIns := [], harness := (true, "15b9ff15b195e9e427d0f5c5c3c4c2bd650d095ed3780e09b476af566e27ae6d"), looks := false }, kinds := [], alts := [], laidByText := true, laidKinds := [.data], laidTests := true, laidLooks := .later }
def PrefixUptoCardSaid : Prop := Claim7.holds Tryz.pinned (.plain (OpenSpec.upto prefixSpec)) prefixUptoCard

/-- THE SECOND FORM's CARD OF 'sketchkeep.Refused'. -/
def refusedUptoCard : Claim7 := { stood := { row := refusedUptoRow, standIns := [], harness := (true, "15b9ff15b195e9e427d0f5c5c3c4c2bd650d095ed3780e09b476af566e27ae6d"), looks := false }, kinds := [], alts := [], laidByText := true, laidKinds := [.data], laidTests := true, laidLooks := .later }
def RefusedUptoCardSaid : Prop := Claim7.holds Tryz.pinned (.plain (OpenSpec.upto refusedSpec)) refusedUptoCard

/-- THE SECOND FORM's CARD OF 'sketchlaw.Counts'. -/
def countsUptoCard : Claim7 := { stood := { row := countsUptoRow, standIns := [], harness := (true, "15b9ff15b195e9e427d0f5c5c3c4c2bd650d095ed3780e09b476af566e27ae6d"), looks := false }, kinds := [], alts := [], laidByText := true, laidKinds := [.data], laidTests := true, laidLooks := .later }
def CountsUptoCardSaid : Prop := Claim7.holds Tryz.pinned (.plain (OpenSpec.upto countsSpec)) countsUptoCard

/-- THE SECOND FORM's CARD OF 'sketchkeep.Bound'. -/
def boundUptoCard : Claim7 := { stood := { row := boundUptoRow, standIns := [], harness := (true, "15b9ff15b195e9e427d0f5c5c3c4c2bd650d095ed3780e09b476af566e27ae6d"), looks := false }, kinds := [], alts := [], laidByText := true, laidKinds := [.data], laidTests := true, laidLooks := .later }
def BoundUptoCardSaid : Prop := Claim7.holds Tryz.pinned (.plain (OpenSpec.upto boundSpec)) boundUptoCard

/-- THE SECOND FORM's CARD OF 'sketchkeep.Budgets'. -/
def budgetsUptoCard : Claim7 := { stood := { row := budgetsUptoRow, standIns := [], harness := (true, "15b9ff15b195e9e427d0f5c5c3c4c2bd650d095ed3780e09b476af566e27ae6d"), looks := false }, kinds := [], alts := [], laidByText := true, laidKinds := [.data], laidTests := true, laidLooks := .later }
def BudgetsUptoCardSaid : Prop := Claim7.holds Tryz.pinned (.plain (OpenSpec.upto budgetsSpec)) budgetsUptoCard

/-- THE SECOND FORM's CARD OF 'sketchlaw.Asks'. -/
def asksUptoCard : Claim7 := { stood := { row := asksUptoRow, standIns := [], harness := (true, "15b9ff15b195e9e427d0f5c5c3c4c2bd650d095ed3780e09b476af566e27ae6d"), looks := false }, kinds := [], alts := [], laidByText := true, laidKinds := [.data], laidTests := true, laidLooks := .later }
def AsksUptoCardSaid : Prop := Claim7.holds Tryz.pinned (.plain (OpenSpec.upto asksSpec)) asksUptoCard

/-- THE SECOND FORM's CARD OF 'sketchkeep.Least'. -/
def leastUptoCard : Claim7 := { stood := { row := leastUptoRow, standIns := [], harness := (true, "15b9ff15b195e9e427d0f5c5c3c4c2bd650d095ed3780e09b476af566e27ae6d"), looks := false }, kinds := [], alts := [], laidByText := true, laidKinds := [.data], laidTests := true, laidLooks := .later }
def LeastUptoCardSaid : Prop := Claim7.holds Tryz.pinned (.plain (OpenSpec.upto leastSpec)) leastUptoCard

/-- THE SECOND FORM's CARD OF 'sketchkeep.Chosen'. -/
def chosenUptoCard : Claim7 := { stood := { row := chosenUptoRow, standIns := [], harness := (true, "15b9ff15b195e9e427d0f5c5c3c4c2bd650d095ed3780e09b476af566e27ae6d"), looks := false }, kinds := [], alts := [], laidByText := true, laidKinds := [.data], laidTests := true, laidLooks := .later }
def ChosenUptoCardSaid : Prop := Claim7.holds Tryz.pinned (.plain (OpenSpec.upto chosenSpec)) chosenUptoCard

/-- THE SECOND FORM's CARD OF 'sketchkeep.Windows'. -/
def windowsUptoCard : Claim7 := { stood := { row := windowsUptoRow, standIns := [], harness := (true, "15b9ff15b195e9e427d0f5c5c3c4c2bd650d095ed3780e09b476af566e27ae6d"), looks := false }, kinds := [], alts := [], laidByText := true, laidKinds := [.data], laidTests := true, laidLooks := .later }
def WindowsUptoCardSaid : Prop := Claim7.holds Tryz.pinned (.plain (OpenSpec.upto windowsSpec)) windowsUptoCard

/-- THE SECOND FORM's CARD OF 'sketchlaw.Runs'. -/
def runsUptoCard : Claim7 := { stood := { row := runsUptoRow, standIns := [], harness := (true, "15b9ff15b195e9e427d0f5c5c3c4c2bd650d095ed3780e09b476af566e27ae6d"), looks := false }, kinds := [], alts := [], laidByText := true, laidKinds := [.data], laidTests := true, laidLooks := .later }
def RunsUptoCardSaid : Prop := Claim7.holds Tryz.pinned (.plain (OpenSpec.upto runsSpec)) runsUptoCard
end Rows
end Go.Proofs.YtahnliehdjncdaaGreatDoor
