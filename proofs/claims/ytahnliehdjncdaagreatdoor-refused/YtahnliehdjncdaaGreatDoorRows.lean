/-
  NARROWER THAN 'FOR EVERY INPUT', by the rows' own cells (each row's printed sentence says how): Admits: laid · Weighs: laid · Prefix: laid · Refused: laid · Counts: laid · Bound: laid · Budgets: laid · Asks: laid · Least: laid · Chosen: laid · Windows: laid · Runs: laid.
  DERIVED. THE GIVEN ROWS OF THIS SEAT. 12 by the template 'for every input the law returns true; each argument reads behind the call as it read before'; 0 by the template 'total and deterministic' (their statements: YtahnliehdjncdaaGreatDoorTotals.lean).
  GIVEN WITH THE SEED: the statements are not yours to turn. If you find one false, say at which input.
  Laid BY PROGRAM, IN A SANDBOX (cutbox-rows.mjs): the forced cells as the released guide's own fill.sh prints them over the translation 42eebe5fc91b3bbd… (all of the seat's roots in one cut). By AI agents, Wed Nov 11 2026. No macro, syntax, notation, axiom, sorry.
-/
import Derived.Test.YtahnliehdjncdaaGreatDoorChecked
import GoSem.Claim
import GoSem.ClaimJoined
import GoSem.ClaimMapViews
import Derived.JoinedTies
import Derived.KernelRfl
namespace Go.Proofs.YtahnliehdjncdaaGreatDoor
/- THE CELL 'sum', in the pinned program and in every row, IS THE sha256 OF THE DUMP (.gsa) THAT YtahnliehdjncdaaGreatDoorProg.lean LOADS. Nothing in Lean hashes anything: it is a label: what it is worth is what the hold of that sum in a sandbox is worth. -/
noncomputable def Tryz.pinned : Pinned := { name := "ytahnliehdjncdaagreatdoor", sum := "42eebe5fc91b3bbd7c0c73d7c0e40d10eb43b1e60309a54ea5f5b15344995359", checked := Tryz.checked }
namespace Rows
def none {H : Type} : Left H := { results := [], args := [] }

/- WHAT THE LISTED PACKAGE-LEVEL VARIABLES READ AS WHEN THE CALL BEGINS. Each datum BY PROGRAM (the guide's laid-datum.mjs) off the statement by which the dump's own 'gosem.cut.vars' lays the variable. In a bare row this is a premise. The card (YtahnliehdjncdaaGreatDoorCards.lean) ties it to the program's text. -/
def laid_math_bits_deBruijn64tab {H : Type} : DataW H := .agg [.lit (.int .u8 0), .lit (.int .u8 1), .lit (.int .u8 56), .lit (.int .u8 2), .lit (.int .u8 57), .lit (.int .u8 49), .lit (.int .u8 28), .lit (.int .u8 3), .lit (.int .u8 61), .lit (.int .u8 58), .lit (.int .u8 42), .lit (.int .u8 50), .lit (.int .u8 38), .lit (.int .u8 29), .lit (.int .u8 17), .lit (.int .u8 4), .lit (.int .u8 62), .lit (.int .u8 47), .lit (.int .u8 59), .lit (.int .u8 36), .lit (.int .u8 45), .lit (.int .u8 43), .lit (.int .u8 51), .lit (.int .u8 22), .lit (.int .u8 53), .lit (.int .u8 39), .lit (.int .u8 33), .lit (.int .u8 30), .lit (.int .u8 24), .lit (.int .u8 18), .lit (.int .u8 12), .lit (.int .u8 5), .lit (.int .u8 63), .lit (.int .u8 55), .lit (.int .u8 48), .lit (.int .u8 27), .lit (.int .u8 60), .lit (.int .u8 41), .lit (.int .u8 37), .lit (.int .u8 16), .lit (.int .u8 46), .lit (.int .u8 35), .lit (.int .u8 44), .lit (.int .u8 21), .lit (.int .u8 52), .lit (.int .u8 32), .lit (.int .u8 23), .lit (.int .u8 11), .lit (.int .u8 54), .lit (.int .u8 26), .lit (.int .u8 40), .lit (.int .u8 15), .lit (.int .u8 34), .lit (.int .u8 20), .lit (.int .u8 31), .lit (.int .u8 10), .lit (.int .u8 25), .lit (.int .u8 14), .lit (.int .u8 19), .lit (.int .u8 9), .lit (.int .u8 13), .lit (.int .u8 8), .lit (.int .u8 7), .lit (.int .u8 6)]

/-- 'sketchlaw.Admits': WHATEVER THE INPUT: true; the input reads as it did. -/
def admitsSpec : ChangeSpec := { name := "admits", fn := fun _ => fun
  | [d] => { results := [.lit (.bool true)], args := [d] }
  | _ => none }
def admitsRow : OpenClaim := { program := "ytahnliehdjncdaagreatdoor", sum := "42eebe5fc91b3bbd7c0c73d7c0e40d10eb43b1e60309a54ea5f5b15344995359", func := "sketch/sketchlaw.Admits", spec := "admits", inPlace := ["slices.overlaps[sketch/kinds.bucket]", "math/bits.Add64"], unfollowed := true, recurses := true, named := ["math/bits.divideError", "math/bits.overflowError", "math/bits.deBruijn64tab"], apart := false, laid := [("math/bits.deBruijn64tab", laid_math_bits_deBruijn64tab)] }
def AdmitsSaid : Prop := admitsRow.holds Tryz.pinned (OpenSpec.ofChange admitsSpec)

/-- ITS FALSE NEIGHBOUR: 'it returns false'. Refute it at one input. -/
def admitsWrong : ChangeSpec := { name := "admits", fn := fun _ => fun
  | [d] => { results := [.lit (.bool false)], args := [d] }
  | _ => none }
def AdmitsWrongFalsely : Prop := admitsRow.holds Tryz.pinned (OpenSpec.ofChange admitsWrong)

/-- 'sketchlaw.Weighs': WHATEVER THE INPUT: true; the input reads as it did. -/
def weighsSpec : ChangeSpec := { name := "weighs", fn := fun _ => fun
  | [d] => { results := [.lit (.bool true)], args := [d] }
  | _ => none }
def weighsRow : OpenClaim := { program := "ytahnliehdjncdaagreatdoor", sum := "42eebe5fc91b3bbd7c0c73d7c0e40d10eb43b1e60309a54ea5f5b15344995359", func := "sketch/sketchlaw.Weighs", spec := "weighs", inPlace := ["slices.overlaps[sketch/kinds.bucket]", "math/bits.Add64"], unfollowed := true, recurses := true, named := ["math/bits.divideError", "math/bits.overflowError", "math/bits.deBruijn64tab"], apart := false, laid := [("math/bits.deBruijn64tab", laid_math_bits_deBruijn64tab)] }
def WeighsSaid : Prop := weighsRow.holds Tryz.pinned (OpenSpec.ofChange weighsSpec)

/-- ITS FALSE NEIGHBOUR: 'it returns false'. Refute it at one input. -/
def weighsWrong : ChangeSpec := { name := "weighs", fn := fun _ => fun
  | [d] => { results := [.lit (.bool false)], args := [d] }
  | _ => none }
def WeighsWrongFalsely : Prop := weighsRow.holds Tryz.pinned (OpenSpec.ofChange weighsWrong)

/-- 'sketchkeep.Prefix': WHATEVER THE INPUT: true; the input reads as it did. -/
def prefixSpec : ChangeSpec := { name := "prefix", fn := fun _ => fun
  | [d1, d2] => { results := [.lit (.bool true)], args := [d1, d2] }
  | _ => none }
def prefixRow : OpenClaim := { program := "ytahnliehdjncdaagreatdoor", sum := "42eebe5fc91b3bbd7c0c73d7c0e40d10eb43b1e60309a54ea5f5b15344995359", func := "sketch/sketchkeep.Prefix", spec := "prefix", inPlace := ["slices.overlaps[sketch/kinds.bucket]", "math/bits.Add64"], unfollowed := true, recurses := true, named := ["math/bits.divideError", "math/bits.overflowError", "math/bits.deBruijn64tab"], apart := false, laid := [("math/bits.deBruijn64tab", laid_math_bits_deBruijn64tab)] }
def PrefixSaid : Prop := prefixRow.holds Tryz.pinned (OpenSpec.ofChange prefixSpec)

/-- ITS FALSE NEIGHBOUR: 'it returns false'. Refute it at one input. -/
def prefixWrong : ChangeSpec := { name := "prefix", fn := fun _ => fun
  | [d1, d2] => { results := [.lit (.bool false)], args := [d1, d2] }
  | _ => none }
def PrefixWrongFalsely : Prop := prefixRow.holds Tryz.pinned (OpenSpec.ofChange prefixWrong)

/-- 'sketchkeep.Refused': WHATEVER THE INPUT: true; the input reads as it did. -/
def refusedSpec : ChangeSpec := { name := "refused", fn := fun _ => fun
  | [d1, d2, d3] => { results := [.lit (.bool true)], args := [d1, d2, d3] }
  | _ => none }
def refusedRow : OpenClaim := { program := "ytahnliehdjncdaagreatdoor", sum := "42eebe5fc91b3bbd7c0c73d7c0e40d10eb43b1e60309a54ea5f5b15344995359", func := "sketch/sketchkeep.Refused", spec := "refused", inPlace := ["slices.overlaps[sketch/kinds.bucket]", "math/bits.Add64"], unfollowed := true, recurses := true, named := ["math/bits.divideError", "math/bits.overflowError", "math/bits.deBruijn64tab"], apart := false, laid := [("math/bits.deBruijn64tab", laid_math_bits_deBruijn64tab)] }
def RefusedSaid : Prop := refusedRow.holds Tryz.pinned (OpenSpec.ofChange refusedSpec)

/-- ITS FALSE NEIGHBOUR: 'it returns false'. Refute it at one input. -/
def refusedWrong : ChangeSpec := { name := "refused", fn := fun _ => fun
  | [d1, d2, d3] => { results := [.lit (.bool false)], args := [d1, d2, d3] }
  | _ => none }
def RefusedWrongFalsely : Prop := refusedRow.holds Tryz.pinned (OpenSpec.ofChange refusedWrong)

/-- 'sketchlaw.Counts': WHATEVER THE INPUT: true; the input reads as it did. -/
def countsSpec : ChangeSpec := { name := "counts", fn := fun _ => fun
  | [d] => { results := [.lit (.bool true)], args := [d] }
  | _ => none }
def countsRow : OpenClaim := { program := "ytahnliehdjncdaagreatdoor", sum := "42eebe5fc91b3bbd7c0c73d7c0e40d10eb43b1e60309a54ea5f5b15344995359", func := "sketch/sketchlaw.Counts", spec := "counts", inPlace := ["slices.overlaps[sketch/kinds.bucket]", "math/bits.Add64"], unfollowed := true, recurses := true, named := ["math/bits.divideError", "math/bits.overflowError", "math/bits.deBruijn64tab"], apart := false, laid := [("math/bits.deBruijn64tab", laid_math_bits_deBruijn64tab)] }
def CountsSaid : Prop := countsRow.holds Tryz.pinned (OpenSpec.ofChange countsSpec)

/-- ITS FALSE NEIGHBOUR: 'it returns false'. Refute it at one input. -/
def countsWrong : ChangeSpec := { name := "counts", fn := fun _ => fun
  | [d] => { results := [.lit (.bool false)], args := [d] }
  | _ => none }
def CountsWrongFalsely : Prop := countsRow.holds Tryz.pinned (OpenSpec.ofChange countsWrong)

/-- 'sketchkeep.Bound': WHATEVER THE INPUT: true; the input reads as it did. -/
def boundSpec : ChangeSpec := { name := "bound", fn := fun _ => fun
  | [d1, d2] => { results := [.lit (.bool true)], args := [d1, d2] }
  | _ => none }
def boundRow : OpenClaim := { program := "ytahnliehdjncdaagreatdoor", sum := "42eebe5fc91b3bbd7c0c73d7c0e40d10eb43b1e60309a54ea5f5b15344995359", func := "sketch/sketchkeep.Bound", spec := "bound", inPlace := ["slices.overlaps[sketch/kinds.bucket]", "math/bits.Add64"], unfollowed := true, recurses := true, named := ["math/bits.divideError", "math/bits.overflowError", "math/bits.deBruijn64tab"], apart := false, laid := [("math/bits.deBruijn64tab", laid_math_bits_deBruijn64tab)] }
def BoundSaid : Prop := boundRow.holds Tryz.pinned (OpenSpec.ofChange boundSpec)

/-- ITS FALSE NEIGHBOUR: 'it returns false'. Refute it at one input. -/
def boundWrong : ChangeSpec := { name := "bound", fn := fun _ => fun
  | [d1, d2] => { results := [.lit (.bool false)], args := [d1, d2] }
  | _ => none }
def BoundWrongFalsely : Prop := boundRow.holds Tryz.pinned (OpenSpec.ofChange boundWrong)

/-- 'sketchkeep.Budgets': WHATEVER THE INPUT: true; the input reads as it did. -/
def budgetsSpec : ChangeSpec := { name := "budgets", fn := fun _ => fun
  | [d1, d2] => { results := [.lit (.bool true)], args := [d1, d2] }
  | _ => none }
def budgetsRow : OpenClaim := { program := "ytahnliehdjncdaagreatdoor", sum := "42eebe5fc91b3bbd7c0c73d7c0e40d10eb43b1e60309a54ea5f5b15344995359", func := "sketch/sketchkeep.Budgets", spec := "budgets", inPlace := ["slices.overlaps[sketch/kinds.bucket]", "math/bits.Add64"], unfollowed := true, recurses := true, named := ["math/bits.divideError", "math/bits.overflowError", "math/bits.deBruijn64tab"], apart := false, laid := [("math/bits.deBruijn64tab", laid_math_bits_deBruijn64tab)] }
def BudgetsSaid : Prop := budgetsRow.holds Tryz.pinned (OpenSpec.ofChange budgetsSpec)

/-- ITS FALSE NEIGHBOUR: 'it returns false'. Refute it at one input. -/
def budgetsWrong : ChangeSpec := { name := "budgets", fn := fun _ => fun
  | [d1, d2] => { results := [.lit (.bool false)], args := [d1, d2] }
  | _ => none }
def BudgetsWrongFalsely : Prop := budgetsRow.holds Tryz.pinned (OpenSpec.ofChange budgetsWrong)

/-- 'sketchlaw.Asks': WHATEVER THE INPUT: true; the input reads as it did. -/
def asksSpec : ChangeSpec := { name := "asks", fn := fun _ => fun
  | [d] => { results := [.lit (.bool true)], args := [d] }
  | _ => none }
def asksRow : OpenClaim := { program := "ytahnliehdjncdaagreatdoor", sum := "42eebe5fc91b3bbd7c0c73d7c0e40d10eb43b1e60309a54ea5f5b15344995359", func := "sketch/sketchlaw.Asks", spec := "asks", inPlace := ["slices.overlaps[sketch/kinds.bucket]", "math/bits.Add64"], unfollowed := true, recurses := true, named := ["math/bits.divideError", "math/bits.overflowError", "math/bits.deBruijn64tab"], apart := false, laid := [("math/bits.deBruijn64tab", laid_math_bits_deBruijn64tab)] }
def AsksSaid : Prop := asksRow.holds Tryz.pinned (OpenSpec.ofChange asksSpec)

/-- ITS FALSE NEIGHBOUR: 'it returns false'. Refute it at one input. -/
def asksWrong : ChangeSpec := { name := "asks", fn := fun _ => fun
  | [d] => { results := [.lit (.bool false)], args := [d] }
  | _ => none }
def AsksWrongFalsely : Prop := asksRow.holds Tryz.pinned (OpenSpec.ofChange asksWrong)

/-- 'sketchkeep.Least': WHATEVER THE INPUT: true; the input reads as it did. -/
def leastSpec : ChangeSpec := { name := "least", fn := fun _ => fun
  | [d1, d2] => { results := [.lit (.bool true)], args := [d1, d2] }
  | _ => none }
def leastRow : OpenClaim := { program := "ytahnliehdjncdaagreatdoor", sum := "42eebe5fc91b3bbd7c0c73d7c0e40d10eb43b1e60309a54ea5f5b15344995359", func := "sketch/sketchkeep.Least", spec := "least", inPlace := ["slices.overlaps[sketch/kinds.bucket]", "math/bits.Add64"], unfollowed := true, recurses := true, named := ["math/bits.divideError", "math/bits.overflowError", "math/bits.deBruijn64tab"], apart := false, laid := [("math/bits.deBruijn64tab", laid_math_bits_deBruijn64tab)] }
def LeastSaid : Prop := leastRow.holds Tryz.pinned (OpenSpec.ofChange leastSpec)

/-- ITS FALSE NEIGHBOUR: 'it returns false'. Refute it at one input. -/
def leastWrong : ChangeSpec := { name := "least", fn := fun _ => fun
  | [d1, d2] => { results := [.lit (.bool false)], args := [d1, d2] }
  | _ => none }
def LeastWrongFalsely : Prop := leastRow.holds Tryz.pinned (OpenSpec.ofChange leastWrong)

/-- 'sketchkeep.Chosen': WHATEVER THE INPUT: true; the input reads as it did. -/
def chosenSpec : ChangeSpec := { name := "chosen", fn := fun _ => fun
  | [d1, d2] => { results := [.lit (.bool true)], args := [d1, d2] }
  | _ => none }
def chosenRow : OpenClaim := { program := "ytahnliehdjncdaagreatdoor", sum := "42eebe5fc91b3bbd7c0c73d7c0e40d10eb43b1e60309a54ea5f5b15344995359", func := "sketch/sketchkeep.Chosen", spec := "chosen", inPlace := ["slices.overlaps[sketch/kinds.bucket]", "math/bits.Add64"], unfollowed := true, recurses := true, named := ["math/bits.divideError", "math/bits.overflowError", "math/bits.deBruijn64tab"], apart := false, laid := [("math/bits.deBruijn64tab", laid_math_bits_deBruijn64tab)] }
def ChosenSaid : Prop := chosenRow.holds Tryz.pinned (OpenSpec.ofChange chosenSpec)

/-- ITS FALSE NEIGHBOUR: 'it returns false'. Refute it at one input. -/
def chosenWrong : ChangeSpec := { name := "chosen", fn := fun _ => fun
  | [d1, d2] => { results := [.lit (.bool false)], args := [d1, d2] }
  | _ => none }
def ChosenWrongFalsely : Prop := chosenRow.holds Tryz.pinned (OpenSpec.ofChange chosenWrong)

/-- 'sketchkeep.Windows': WHATEVER THE INPUT: true; the input reads as it did. -/
def windowsSpec : ChangeSpec := { name := "windows", fn := fun _ => fun
  | [d1, d2] => { results := [.lit (.bool true)], args := [d1, d2] }
  | _ => none }
def windowsRow : OpenClaim := { program := "ytahnliehdjncdaagreatdoor", sum := "42eebe5fc91b3bbd7c0c73d7c0e40d10eb43b1e60309a54ea5f5b15344995359", func := "sketch/sketchkeep.Windows", spec := "windows", inPlace := ["slices.overlaps[sketch/kinds.bucket]", "math/bits.Add64"], unfollowed := true, recurses := true, named := ["math/bits.divideError", "math/bits.overflowError", "math/bits.deBruijn64tab"], apart := false, laid := [("math/bits.deBruijn64tab", laid_math_bits_deBruijn64tab)] }
def WindowsSaid : Prop := windowsRow.holds Tryz.pinned (OpenSpec.ofChange windowsSpec)

/-- ITS FALSE NEIGHBOUR: 'it returns false'. Refute it at one input. -/
def windowsWrong : ChangeSpec := { name := "windows", fn := fun _ => fun
  | [d1, d2] => { results := [.lit (.bool false)], args := [d1, d2] }
  | _ => none }
def WindowsWrongFalsely : Prop := windowsRow.holds Tryz.pinned (OpenSpec.ofChange windowsWrong)

/-- 'sketchlaw.Runs': WHATEVER THE INPUT: true; the input reads as it did. -/
def runsSpec : ChangeSpec := { name := "runs", fn := fun _ => fun
  | [d] => { results := [.lit (.bool true)], args := [d] }
  | _ => none }
def runsRow : OpenClaim := { program := "ytahnliehdjncdaagreatdoor", sum := "42eebe5fc91b3bbd7c0c73d7c0e40d10eb43b1e60309a54ea5f5b15344995359", func := "sketch/sketchlaw.Runs", spec := "runs", inPlace := ["slices.overlaps[sketch/kinds.bucket]", "math/bits.Add64"], unfollowed := true, recurses := true, named := ["math/bits.divideError", "math/bits.overflowError", "math/bits.deBruijn64tab"], apart := false, laid := [("math/bits.deBruijn64tab", laid_math_bits_deBruijn64tab)] }
def RunsSaid : Prop := runsRow.holds Tryz.pinned (OpenSpec.ofChange runsSpec)

/-- ITS FALSE NEIGHBOUR: 'it returns false'. Refute it at one input. -/
def runsWrong : ChangeSpec := { name := "runs", fn := fun _ => fun
  | [d] => { results := [.lit (.bool false)], args := [d] }
  | _ => none }
def RunsWrongFalsely : Prop := runsRow.holds Tryz.pinned (OpenSpec.ofChange runsWrong)

/- THE SECOND FORM. 'bulk': how many values and letters a reading holds, each counted each time it is reached (what is shared counts as often as it is met; a slice's spare places count too). A statement '..UptoSaid' is the law's where the arguments, and the package variables that the reading takes, are together of bulk at most 1048576: NARROWER than '..Said'. Prove '..Said' where nothing that the law and all that it calls make is longer than what came in: it says more and counts as full. Else prove '..UptoSaid'. A law counts once. -/
mutual
def uptoBulk {H : Type} : DataW H → Nat
  | .lit (.string bytes) => bytes.length + 1
  | .lit _ => 1
  | .nil => 1
  | .ptr d => uptoBulk d + 1
  | .slice elems spare => uptoBulkAll elems + uptoBulkAll spare + 1
  | .agg parts => uptoBulkAll parts + 1
  | .iface _ d => uptoBulk d + 1
  | .map entries => uptoBulkEntries entries + 1
  | .held _ => 1
def uptoBulkAll {H : Type} : List (DataW H) → Nat
  | [] => 0
  | d :: r => uptoBulk d + uptoBulkAll r
def uptoBulkEntries {H : Type} : List (Lit × DataW H) → Nat
  | [] => 0
  | x :: r => uptoBulkEntry x + uptoBulkEntries r
def uptoBulkEntry {H : Type} : Lit × DataW H → Nat
  | (.string bytes, d) => bytes.length + uptoBulk d + 1
  | (_, d) => uptoBulk d + 1
 end
def uptoSmall : (H : Type) → List (DataW H) → Bool := fun _ ds => decide (uptoBulkAll ds ≤ 1048576)
def OpenSpec.upto (s : _root_.Go.ChangeSpec) : _root_.Go.OpenSpec := { _root_.Go.OpenSpec.ofChange s with cond := some uptoSmall }

/-- 'sketchlaw.Admits', WHERE WHAT IT READS IS OF BULK AT MOST 1048576: true; the input reads as it did. -/
def admitsUptoRow : OpenClaim := { program := "ytahnliehdjncdaagreatdoor", sum := "42eebe5fc91b3bbd7c0c73d7c0e40d10eb43b1e60309a54ea5f5b15344995359", func := "sketch/sketchlaw.Admits", spec := "admits", inPlace := ["slices.overlaps[sketch/kinds.bucket]", "math/bits.Add64"], unfollowed := true, recurses := true, named := ["math/bits.divideError", "math/bits.overflowError", "math/bits.deBruijn64tab"], apart := false, laid := [("math/bits.deBruijn64tab", laid_math_bits_deBruijn64tab)], narrowed := true }
def AdmitsUptoSaid : Prop := admitsUptoRow.holds Tryz.pinned (OpenSpec.upto admitsSpec)

/-- 'sketchlaw.Weighs', WHERE WHAT IT READS IS OF BULK AT MOST 1048576: true; the input reads as it did. -/
def weighsUptoRow : OpenClaim := { program := "ytahnliehdjncdaagreatdoor", sum := "42eebe5fc91b3bbd7c0c73d7c0e40d10eb43b1e60309a54ea5f5b15344995359", func := "sketch/sketchlaw.Weighs", spec := "weighs", inPlace := ["slices.overlaps[sketch/kinds.bucket]", "math/bits.Add64"], unfollowed := true, recurses := true, named := ["math/bits.divideError", "math/bits.overflowError", "math/bits.deBruijn64tab"], apart := false, laid := [("math/bits.deBruijn64tab", laid_math_bits_deBruijn64tab)], narrowed := true }
def WeighsUptoSaid : Prop := weighsUptoRow.holds Tryz.pinned (OpenSpec.upto weighsSpec)

/-- 'sketchkeep.Prefix', WHERE WHAT IT READS IS OF BULK AT MOST 1048576: true; the input reads as it did. -/
def prefixUptoRow : OpenClaim := { program := "ytahnliehdjncdaagreatdoor", sum := "42eebe5fc91b3bbd7c0c73d7c0e40d10eb43b1e60309a54ea5f5b15344995359", func := "sketch/sketchkeep.Prefix", spec := "prefix", inPlace := ["slices.overlaps[sketch/kinds.bucket]", "math/bits.Add64"], unfollowed := true, recurses := true, named := ["math/bits.divideError", "math/bits.overflowError", "math/bits.deBruijn64tab"], apart := false, laid := [("math/bits.deBruijn64tab", laid_math_bits_deBruijn64tab)], narrowed := true }
def PrefixUptoSaid : Prop := prefixUptoRow.holds Tryz.pinned (OpenSpec.upto prefixSpec)

/-- 'sketchkeep.Refused', WHERE WHAT IT READS IS OF BULK AT MOST 1048576: true; the input reads as it did. -/
def refusedUptoRow : OpenClaim := { program := "ytahnliehdjncdaagreatdoor", sum := "42eebe5fc91b3bbd7c0c73d7c0e40d10eb43b1e60309a54ea5f5b15344995359", func := "sketch/sketchkeep.Refused", spec := "refused", inPlace := ["slices.overlaps[sketch/kinds.bucket]", "math/bits.Add64"], unfollowed := true, recurses := true, named := ["math/bits.divideError", "math/bits.overflowError", "math/bits.deBruijn64tab"], apart := false, laid := [("math/bits.deBruijn64tab", laid_math_bits_deBruijn64tab)], narrowed := true }
def RefusedUptoSaid : Prop := refusedUptoRow.holds Tryz.pinned (OpenSpec.upto refusedSpec)

/-- 'sketchlaw.Counts', WHERE WHAT IT READS IS OF BULK AT MOST 1048576: true; the input reads as it did. -/
def countsUptoRow : OpenClaim := { program := "ytahnliehdjncdaagreatdoor", sum := "42eebe5fc91b3bbd7c0c73d7c0e40d10eb43b1e60309a54ea5f5b15344995359", func := "sketch/sketchlaw.Counts", spec := "counts", inPlace := ["slices.overlaps[sketch/kinds.bucket]", "math/bits.Add64"], unfollowed := true, recurses := true, named := ["math/bits.divideError", "math/bits.overflowError", "math/bits.deBruijn64tab"], apart := false, laid := [("math/bits.deBruijn64tab", laid_math_bits_deBruijn64tab)], narrowed := true }
def CountsUptoSaid : Prop := countsUptoRow.holds Tryz.pinned (OpenSpec.upto countsSpec)

/-- 'sketchkeep.Bound', WHERE WHAT IT READS IS OF BULK AT MOST 1048576: true; the input reads as it did. -/
def boundUptoRow : OpenClaim := { program := "ytahnliehdjncdaagreatdoor", sum := "42eebe5fc91b3bbd7c0c73d7c0e40d10eb43b1e60309a54ea5f5b15344995359", func := "sketch/sketchkeep.Bound", spec := "bound", inPlace := ["slices.overlaps[sketch/kinds.bucket]", "math/bits.Add64"], unfollowed := true, recurses := true, named := ["math/bits.divideError", "math/bits.overflowError", "math/bits.deBruijn64tab"], apart := false, laid := [("math/bits.deBruijn64tab", laid_math_bits_deBruijn64tab)], narrowed := true }
def BoundUptoSaid : Prop := boundUptoRow.holds Tryz.pinned (OpenSpec.upto boundSpec)

/-- 'sketchkeep.Budgets', WHERE WHAT IT READS IS OF BULK AT MOST 1048576: true; the input reads as it did. -/
def budgetsUptoRow : OpenClaim := { program := "ytahnliehdjncdaagreatdoor", sum := "42eebe5fc91b3bbd7c0c73d7c0e40d10eb43b1e60309a54ea5f5b15344995359", func := "sketch/sketchkeep.Budgets", spec := "budgets", inPlace := ["slices.overlaps[sketch/kinds.bucket]", "math/bits.Add64"], unfollowed := true, recurses := true, named := ["math/bits.divideError", "math/bits.overflowError", "math/bits.deBruijn64tab"], apart := false, laid := [("math/bits.deBruijn64tab", laid_math_bits_deBruijn64tab)], narrowed := true }
def BudgetsUptoSaid : Prop := budgetsUptoRow.holds Tryz.pinned (OpenSpec.upto budgetsSpec)

/-- 'sketchlaw.Asks', WHERE WHAT IT READS IS OF BULK AT MOST 1048576: true; the input reads as it did. -/
def asksUptoRow : OpenClaim := { program := "ytahnliehdjncdaagreatdoor", sum := "42eebe5fc91b3bbd7c0c73d7c0e40d10eb43b1e60309a54ea5f5b15344995359", func := "sketch/sketchlaw.Asks", spec := "asks", inPlace := ["slices.overlaps[sketch/kinds.bucket]", "math/bits.Add64"], unfollowed := true, recurses := true, named := ["math/bits.divideError", "math/bits.overflowError", "math/bits.deBruijn64tab"], apart := false, laid := [("math/bits.deBruijn64tab", laid_math_bits_deBruijn64tab)], narrowed := true }
def AsksUptoSaid : Prop := asksUptoRow.holds Tryz.pinned (OpenSpec.upto asksSpec)

/-- 'sketchkeep.Least', WHERE WHAT IT READS IS OF BULK AT MOST 1048576: true; the input reads as it did. -/
def leastUptoRow : OpenClaim := { program := "ytahnliehdjncdaagreatdoor", sum := "42eebe5fc91b3bbd7c0c73d7c0e40d10eb43b1e60309a54ea5f5b15344995359", func := "sketch/sketchkeep.Least", spec := "least", inPlace := ["slices.overlaps[sketch/kinds.bucket]", "math/bits.Add64"], unfollowed := true, recurses := true, named := ["math/bits.divideError", "math/bits.overflowError", "math/bits.deBruijn64tab"], apart := false, laid := [("math/bits.deBruijn64tab", laid_math_bits_deBruijn64tab)], narrowed := true }
def LeastUptoSaid : Prop := leastUptoRow.holds Tryz.pinned (OpenSpec.upto leastSpec)

/-- 'sketchkeep.Chosen', WHERE WHAT IT READS IS OF BULK AT MOST 1048576: true; the input reads as it did. -/
def chosenUptoRow : OpenClaim := { program := "ytahnliehdjncdaagreatdoor", sum := "42eebe5fc91b3bbd7c0c73d7c0e40d10eb43b1e60309a54ea5f5b15344995359", func := "sketch/sketchkeep.Chosen", spec := "chosen", inPlace := ["slices.overlaps[sketch/kinds.bucket]", "math/bits.Add64"], unfollowed := true, recurses := true, named := ["math/bits.divideError", "math/bits.overflowError", "math/bits.deBruijn64tab"], apart := false, laid := [("math/bits.deBruijn64tab", laid_math_bits_deBruijn64tab)], narrowed := true }
def ChosenUptoSaid : Prop := chosenUptoRow.holds Tryz.pinned (OpenSpec.upto chosenSpec)

/-- 'sketchkeep.Windows', WHERE WHAT IT READS IS OF BULK AT MOST 1048576: true; the input reads as it did. -/
def windowsUptoRow : OpenClaim := { program := "ytahnliehdjncdaagreatdoor", sum := "42eebe5fc91b3bbd7c0c73d7c0e40d10eb43b1e60309a54ea5f5b15344995359", func := "sketch/sketchkeep.Windows", spec := "windows", inPlace := ["slices.overlaps[sketch/kinds.bucket]", "math/bits.Add64"], unfollowed := true, recurses := true, named := ["math/bits.divideError", "math/bits.overflowError", "math/bits.deBruijn64tab"], apart := false, laid := [("math/bits.deBruijn64tab", laid_math_bits_deBruijn64tab)], narrowed := true }
def WindowsUptoSaid : Prop := windowsUptoRow.holds Tryz.pinned (OpenSpec.upto windowsSpec)

/-- 'sketchlaw.Runs', WHERE WHAT IT READS IS OF BULK AT MOST 1048576: true; the input reads as it did. -/
def runsUptoRow : OpenClaim := { program := "ytahnliehdjncdaagreatdoor", sum := "42eebe5fc91b3bbd7c0c73d7c0e40d10eb43b1e60309a54ea5f5b15344995359", func := "sketch/sketchlaw.Runs", spec := "runs", inPlace := ["slices.overlaps[sketch/kinds.bucket]", "math/bits.Add64"], unfollowed := true, recurses := true, named := ["math/bits.divideError", "math/bits.overflowError", "math/bits.deBruijn64tab"], apart := false, laid := [("math/bits.deBruijn64tab", laid_math_bits_deBruijn64tab)], narrowed := true }
def RunsUptoSaid : Prop := runsUptoRow.holds Tryz.pinned (OpenSpec.upto runsSpec)

end Rows
end Go.Proofs.YtahnliehdjncdaaGreatDoor
