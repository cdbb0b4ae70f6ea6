/-
  No cell of these rows narrows 'for every input' (looked for: loops, veiled, ifaces, maps, wideKeys, modest, calm, conditions, laid).
  DERIVED. THE GIVEN ROWS OF THIS SEAT. 4 by the template 'for every input the law returns true; each argument reads behind the call as it read before'; 0 by the template 'total and deterministic' (their statements: YtjhaihbjhikhlaaTotals.lean).
  GIVEN WITH THE SEED: the statements are not yours to turn. If you find one false, say at which input.
  Laid BY PROGRAM, IN A SANDBOX (cutbox-rows.mjs): the forced cells as the released guide's own fill.sh prints them over the translation 636134e521596d19… (all of the seat's roots in one cut). By AI agents, Wed Nov 11 2026. No macro, syntax, notation, axiom, sorry.
-/
import Derived.Test.YtjhaihbjhikhlaaChecked
import GoSem.Claim
import GoSem.ClaimJoined
import GoSem.ClaimMapViews
import Derived.JoinedTies
import Derived.KernelRfl
namespace Go.Proofs.Ytjhaihbjhikhlaa
/- THE CELL 'sum', in the pinned program and in every row, IS THE sha256 OF THE DUMP (.gsa) THAT YtjhaihbjhikhlaaProg.lean LOADS. Nothing in Lean hashes anything: it is a label: what it is worth is what the hold of that sum in a sandbox is worth. -/
noncomputable def Try.pinned : Pinned := { name := "ytjhaihbjhikhlaa", sum := "636134e521596d19e32daf0332fa035ecdbb0e5f87a901f8d64671e1595896b6", checked := Try.checked }
namespace Rows
def none {H : Type} : Left H := { results := [], args := [] }

/-- 'sketchkeep.Prefix': WHATEVER THE INPUT: true; the input reads as it did. -/
def prefixSpec : ChangeSpec := { name := "prefix", fn := fun _ => fun
  | [d1, d2] => { results := [.lit (.bool true)], args := [d1, d2] }
  | _ => none }
def prefixRow : OpenClaim := { program := "ytjhaihbjhikhlaa", sum := "636134e521596d19e32daf0332fa035ecdbb0e5f87a901f8d64671e1595896b6", func := "sketch/sketchkeep.Prefix", spec := "prefix", inPlace := ["slices.overlaps[sketch/kinds.bucket]"], unfollowed := true, recurses := true, apart := false }
def PrefixSaid : Prop := prefixRow.holds Try.pinned (OpenSpec.ofChange prefixSpec)

/-- ITS FALSE NEIGHBOUR: 'it returns false'. Refute it at one input. -/
def prefixWrong : ChangeSpec := { name := "prefix", fn := fun _ => fun
  | [d1, d2] => { results := [.lit (.bool false)], args := [d1, d2] }
  | _ => none }
def PrefixWrongFalsely : Prop := prefixRow.holds Try.pinned (OpenSpec.ofChange prefixWrong)

/-- 'sketchkeep.Refused': WHATEVER THE INPUT: true; the input reads as it did. -/
def refusedSpec : ChangeSpec := { name := "refused", fn := fun _ => fun
  | [d1, d2, d3] => { results := [.lit (.bool true)], args := [d1, d2, d3] }
  | _ => none }
def refusedRow : OpenClaim := { program := "ytjhaihbjhikhlaa", sum := "636134e521596d19e32daf0332fa035ecdbb0e5f87a901f8d64671e1595896b6", func := "sketch/sketchkeep.Refused", spec := "refused", inPlace := ["slices.overlaps[sketch/kinds.bucket]"], unfollowed := true, recurses := true, apart := false }
def RefusedSaid : Prop := refusedRow.holds Try.pinned (OpenSpec.ofChange refusedSpec)

/-- ITS FALSE NEIGHBOUR: 'it returns false'. Refute it at one input. -/
def refusedWrong : ChangeSpec := { name := "refused", fn := fun _ => fun
  | [d1, d2, d3] => { results := [.lit (.bool false)], args := [d1, d2, d3] }
  | _ => none }
def RefusedWrongFalsely : Prop := refusedRow.holds Try.pinned (OpenSpec.ofChange refusedWrong)

/-- 'sketchkeep.Bound': WHATEVER THE INPUT: true; the input reads as it did. -/
def boundSpec : ChangeSpec := { name := "bound", fn := fun _ => fun
  | [d1, d2] => { results := [.lit (.bool true)], args := [d1, d2] }
  | _ => none }
def boundRow : OpenClaim := { program := "ytjhaihbjhikhlaa", sum := "636134e521596d19e32daf0332fa035ecdbb0e5f87a901f8d64671e1595896b6", func := "sketch/sketchkeep.Bound", spec := "bound", inPlace := ["slices.overlaps[sketch/kinds.bucket]"], unfollowed := true, recurses := true, apart := false }
def BoundSaid : Prop := boundRow.holds Try.pinned (OpenSpec.ofChange boundSpec)

/-- ITS FALSE NEIGHBOUR: 'it returns false'. Refute it at one input. -/
def boundWrong : ChangeSpec := { name := "bound", fn := fun _ => fun
  | [d1, d2] => { results := [.lit (.bool false)], args := [d1, d2] }
  | _ => none }
def BoundWrongFalsely : Prop := boundRow.holds Try.pinned (OpenSpec.ofChange boundWrong)

/-- 'sketchkeep.Budgets': WHATEVER THE INPUT: true; the input reads as it did. -/
def budgetsSpec : ChangeSpec := { name := "budgets", fn := fun _ => fun
  | [d1, d2] => { results := [.lit (.bool true)], args := [d1, d2] }
  | _ => none }
def budgetsRow : OpenClaim := { program := "ytjhaihbjhikhlaa", sum := "636134e521596d19e32daf0332fa035ecdbb0e5f87a901f8d64671e1595896b6", func := "sketch/sketchkeep.Budgets", spec := "budgets", inPlace := ["slices.overlaps[sketch/kinds.bucket]"], unfollowed := true, recurses := true, apart := false }
def BudgetsSaid : Prop := budgetsRow.holds Try.pinned (OpenSpec.ofChange budgetsSpec)

/-- ITS FALSE NEIGHBOUR: 'it returns false'. Refute it at one input. -/
def budgetsWrong : ChangeSpec := { name := "budgets", fn := fun _ => fun
  | [d1, d2] => { results := [.lit (.bool false)], args := [d1, d2] }
  | _ => none }
def BudgetsWrongFalsely : Prop := budgetsRow.holds Try.pinned (OpenSpec.ofChange budgetsWrong)

/- THE SECOND FORM. 'bulk': how many values and letters a reading holds, each counted each time it is reached (what is shared counts as often as it is met; a slice's spare places count too). A statement '..UptoSaid' is the law's where the arguments, and the package variables that the reading takes, are together of bulk at most 1048576: NARROWER than '..Said'. Prove '..Said' where nothing that the law and all that it calls make is longer than what came in: it says more and counts as full. Else prove '..UptoSaid'. A law counts once. -/
mutual
def uptoBulk {H : Type} : DataW H → Nat
  | .lit (.string bytes) => bytes.length + 1
  | .lit _ => 1
  | .nil => 1
  | .ptr d => uptoBulk d + 1
  | .slice elems spare => uptoBulkAll elems + uptoBulkAll spare + 1
  | .agg parts => uptoBulkAll parts + 1
  | .iface _ d => uptoBulk d + 1
  | .map entries => uptoBulkEntries entries + 1
  | .held _ => 1
def uptoBulkAll {H : Type} : List (DataW H) → Nat
  | [] => 0
  | d :: r => uptoBulk d + uptoBulkAll r
def uptoBulkEntries {H : Type} : List (Lit × DataW H) → Nat
  | [] => 0
  | x :: r => uptoBulkEntry x + uptoBulkEntries r
def uptoBulkEntry {H : Type} : Lit × DataW H → Nat
  | (.string bytes, d) => bytes.length + uptoBulk d + 1
  | (_, d) => uptoBulk d + 1
 end
def uptoSmall : (H : Type) → List (DataW H) → Bool := fun _ ds => decide (uptoBulkAll ds ≤ 1048576)
def OpenSpec.upto (s : _root_.Go.ChangeSpec) : _root_.Go.OpenSpec := { _root_.Go.OpenSpec.ofChange s with cond := some uptoSmall }

/-- 'sketchkeep.Prefix', WHERE WHAT IT READS IS OF BULK AT MOST 1048576: true; the input reads as it did. -/
def prefixUptoRow : OpenClaim := { program := "ytjhaihbjhikhlaa", sum := "636134e521596d19e32daf0332fa035ecdbb0e5f87a901f8d64671e1595896b6", func := "sketch/sketchkeep.Prefix", spec := "prefix", inPlace := ["slices.overlaps[sketch/kinds.bucket]"], unfollowed := true, recurses := true, apart := false, narrowed := true }
def PrefixUptoSaid : Prop := prefixUptoRow.holds Try.pinned (OpenSpec.upto prefixSpec)

/-- 'sketchkeep.Refused', WHERE WHAT IT READS IS OF BULK AT MOST 1048576: true; the input reads as it did. -/
def refusedUptoRow : OpenClaim := { program := "ytjhaihbjhikhlaa", sum := "636134e521596d19e32daf0332fa035ecdbb0e5f87a901f8d64671e1595896b6", func := "sketch/sketchkeep.Refused", spec := "refused", inPlace := ["slices.overlaps[sketch/kinds.bucket]"], unfollowed := true, recurses := true, apart := false, narrowed := true }
def RefusedUptoSaid : Prop := refusedUptoRow.holds Try.pinned (OpenSpec.upto refusedSpec)

/-- 'sketchkeep.Bound', WHERE WHAT IT READS IS OF BULK AT MOST 1048576: true; the input reads as it did. -/
def boundUptoRow : OpenClaim := { program := "ytjhaihbjhikhlaa", sum := "636134e521596d19e32daf0332fa035ecdbb0e5f87a901f8d64671e1595896b6", func := "sketch/sketchkeep.Bound", spec := "bound", inPlace := ["slices.overlaps[sketch/kinds.bucket]"], unfollowed := true, recurses := true, apart := false, narrowed := true }
def BoundUptoSaid : Prop := boundUptoRow.holds Try.pinned (OpenSpec.upto boundSpec)

/-- 'sketchkeep.Budgets', WHERE WHAT IT READS IS OF BULK AT MOST 1048576: true; the input reads as it did. -/
def budgetsUptoRow : OpenClaim := { program := "ytjhaihbjhikhlaa", sum := "636134e521596d19e32daf0332fa035ecdbb0e5f87a901f8d64671e1595896b6", func := "sketch/sketchkeep.Budgets", spec := "budgets", inPlace := ["slices.overlaps[sketch/kinds.bucket]"], unfollowed := true, recurses := true, apart := false, narrowed := true }
def BudgetsUptoSaid : Prop := budgetsUptoRow.holds Try.pinned (OpenSpec.upto budgetsSpec)

end Rows
end Go.Proofs.Ytjhaihbjhikhlaa
