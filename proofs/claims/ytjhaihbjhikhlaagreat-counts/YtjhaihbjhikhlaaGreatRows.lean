/-
  No cell of these rows narrows 'for every input' (looked for: loops, veiled, ifaces, maps, wideKeys, modest, calm, conditions, laid).
  DERIVED. THE GIVEN ROWS OF THIS SEAT. 4 by the template 'for every input the law returns true; each argument reads behind the call as it read before'; 0 by the template 'total and deterministic' (their statements: YtjhaihbjhikhlaaGreatTotals.lean).
  GIVEN WITH THE SEED: the statements are not yours to turn. If you find one false, say at which input.
  Laid BY PROGRAM, IN A SANDBOX (cutbox-rows.mjs): the forced cells as the released guide's own fill.sh prints them over the translation b41f1d4684e83a32… (all of the seat's roots in one cut). By AI agents, Wed Nov 11 2026. No macro, syntax, notation, axiom, sorry.
-/
import Derived.Test.YtjhaihbjhikhlaaGreatChecked
import GoSem.Claim
import GoSem.ClaimJoined
import GoSem.ClaimMapViews
import Derived.JoinedTies
import Derived.KernelRfl
namespace Go.Proofs.YtjhaihbjhikhlaaGreat
/- THE CELL 'sum', in the pinned program and in every row, IS THE sha256 OF THE DUMP (.gsa) THAT YtjhaihbjhikhlaaGreatProg.lean LOADS. Nothing in Lean hashes anything: it is a label: what it is worth is what the hold of that sum in a sandbox is worth. -/
noncomputable def Tryz.pinned : Pinned := { name := "ytjhaihbjhikhlaagreat", sum := "b41f1d4684e83a32b9d02c08e3e9cc1650e7034c39989084ade6e1626a50b317", checked := Tryz.checked }
namespace Rows
def none {H : Type} : Left H := { results := [], args := [] }

/-- 'sketchlaw.Admits': WHATEVER THE INPUT: true; the input reads as it did. -/
def admitsSpec : ChangeSpec := { name := "admits", fn := fun _ => fun
  | [d] => { results := [.lit (.bool true)], args := [d] }
  | _ => none }
def admitsRow : OpenClaim := { program := "ytjhaihbjhikhlaagreat", sum := "b41f1d4684e83a32b9d02c08e3e9cc1650e7034c39989084ade6e1626a50b317", func := "sketch/sketchlaw.Admits", spec := "admits", inPlace := ["slices.overlaps[sketch/kinds.bucket]"], unfollowed := true, recurses := true, apart := false }
def AdmitsSaid : Prop := admitsRow.holds Tryz.pinned (OpenSpec.ofChange admitsSpec)

/-- ITS FALSE NEIGHBOUR: 'it returns false'. Refute it at one input. -/
def admitsWrong : ChangeSpec := { name := "admits", fn := fun _ => fun
  | [d] => { results := [.lit (.bool false)], args := [d] }
  | _ => none }
def AdmitsWrongFalsely : Prop := admitsRow.holds Tryz.pinned (OpenSpec.ofChange admitsWrong)

/-- 'sketchlaw.Weighs': WHATEVER THE INPUT: true; the input reads as it did. -/
def weighsSpec : ChangeSpec := { name := "weighs", fn := fun _ => fun
  | [d] => { results := [.lit (.bool true)], args := [d] }
  | _ => none }
def weighsRow : OpenClaim := { program := "ytjhaihbjhikhlaagreat", sum := "b41f1d4684e83a32b9d02c08e3e9cc1650e7034c39989084ade6e1626a50b317", func := "sketch/sketchlaw.Weighs", spec := "weighs", inPlace := ["slices.overlaps[sketch/kinds.bucket]"], unfollowed := true, recurses := true, apart := false }
def WeighsSaid : Prop := weighsRow.holds Tryz.pinned (OpenSpec.ofChange weighsSpec)

/-- ITS FALSE NEIGHBOUR: 'it returns false'. Refute it at one input. -/
def weighsWrong : ChangeSpec := { name := "weighs", fn := fun _ => fun
  | [d] => { results := [.lit (.bool false)], args := [d] }
  | _ => none }
def WeighsWrongFalsely : Prop := weighsRow.holds Tryz.pinned (OpenSpec.ofChange weighsWrong)

/-- 'sketchlaw.Counts': WHATEVER THE INPUT: true; the input reads as it did. -/
def countsSpec : ChangeSpec := { name := "counts", fn := fun _ => fun
  | [d] => { results := [.lit (.bool true)], args := [d] }
  | _ => none }
def countsRow : OpenClaim := { program := "ytjhaihbjhikhlaagreat", sum := "b41f1d4684e83a32b9d02c08e3e9cc1650e7034c39989084ade6e1626a50b317", func := "sketch/sketchlaw.Counts", spec := "counts", inPlace := ["slices.overlaps[sketch/kinds.bucket]"], unfollowed := true, recurses := true, apart := false }
def CountsSaid : Prop := countsRow.holds Tryz.pinned (OpenSpec.ofChange countsSpec)

/-- ITS FALSE NEIGHBOUR: 'it returns false'. Refute it at one input. -/
def countsWrong : ChangeSpec := { name := "counts", fn := fun _ => fun
  | [d] => { results := [.lit (.bool false)], args := [d] }
  | _ => none }
def CountsWrongFalsely : Prop := countsRow.holds Tryz.pinned (OpenSpec.ofChange countsWrong)

/-- 'sketchlaw.Asks': WHATEVER THE INPUT: true; the input reads as it did. -/
def asksSpec : ChangeSpec := { name := "asks", fn := fun _ => fun
  | [d] => { results := [.lit (.bool true)], args := [d] }
  | _ => none }
def asksRow : OpenClaim := { program := "ytjhaihbjhikhlaagreat", sum := "b41f1d4684e83a32b9d02c08e3e9cc1650e7034c39989084ade6e1626a50b317", func := "sketch/sketchlaw.Asks", spec := "asks", inPlace := ["slices.overlaps[sketch/kinds.bucket]"], unfollowed := true, recurses := true, apart := false }
def AsksSaid : Prop := asksRow.holds Tryz.pinned (OpenSpec.ofChange asksSpec)

/-- ITS FALSE NEIGHBOUR: 'it returns false'. Refute it at one input. -/
def asksWrong : ChangeSpec := { name := "asks", fn := fun _ => fun
  | [d] => { results := [.lit (.bool false)], args := [d] }
  | _ => none }
def AsksWrongFalsely : Prop := asksRow.holds Tryz.pinned (OpenSpec.ofChange asksWrong)

/- THE SECOND FORM. 'bulk': how many values and letters a reading holds, each counted each time it is reached (what is shared counts as often as it is met; a slice's spare places count too). A statement '..UptoSaid' is the law's where the arguments, and the package variables that the reading takes, are together of bulk at most 1048576: NARROWER than '..Said'. Prove '..Said' where nothing that the law and all that it calls make is longer than what came in: it says more and counts as full. Else prove '..UptoSaid'. A law counts once. -/
mutual
def uptoBulk {H : Type} : DataW H → Nat
  | .lit (.string bytes) => bytes.length + 1
  | .lit _ => 1
  | .nil => 1
  | .ptr d => uptoBulk d + 1
  | .slice elems spare => uptoBulkAll elems + uptoBulkAll spare + 1
  | .agg parts => uptoBulkAll parts + 1
  | .iface _ d => uptoBulk d + 1
  | .map entries => uptoBulkEntries entries + 1
  | .held _ => 1
def uptoBulkAll {H : Type} : List (DataW H) → Nat
  | [] => 0
  | d :: r => uptoBulk d + uptoBulkAll r
def uptoBulkEntries {H : Type} : List (Lit × DataW H) → Nat
  | [] => 0
  | x :: r => uptoBulkEntry x + uptoBulkEntries r
def uptoBulkEntry {H : Type} : Lit × DataW H → Nat
  | (.string bytes, d) => bytes.length + uptoBulk d + 1
  | (_, d) => uptoBulk d + 1
 end
def uptoSmall : (H : Type) → List (DataW H) → Bool := fun _ ds => decide (uptoBulkAll ds ≤ 1048576)
def OpenSpec.upto (s : _root_.Go.ChangeSpec) : _root_.Go.OpenSpec := { _root_.Go.OpenSpec.ofChange s with cond := some uptoSmall }

/-- 'sketchlaw.Admits', WHERE WHAT IT READS IS OF BULK AT MOST 1048576: true; the input reads as it did. -/
def admitsUptoRow : OpenClaim := { program := "ytjhaihbjhikhlaagreat", sum := "b41f1d4684e83a32b9d02c08e3e9cc1650e7034c39989084ade6e1626a50b317", func := "sketch/sketchlaw.Admits", spec := "admits", inPlace := ["slices.overlaps[sketch/kinds.bucket]"], unfollowed := true, recurses := true, apart := false, narrowed := true }
def AdmitsUptoSaid : Prop := admitsUptoRow.holds Tryz.pinned (OpenSpec.upto admitsSpec)

/-- 'sketchlaw.Weighs', WHERE WHAT IT READS IS OF BULK AT MOST 1048576: true; the input reads as it did. -/
def weighsUptoRow : OpenClaim := { program := "ytjhaihbjhikhlaagreat", sum := "b41f1d4684e83a32b9d02c08e3e9cc1650e7034c39989084ade6e1626a50b317", func := "sketch/sketchlaw.Weighs", spec := "weighs", inPlace := ["slices.overlaps[sketch/kinds.bucket]"], unfollowed := true, recurses := true, apart := false, narrowed := true }
def WeighsUptoSaid : Prop := weighsUptoRow.holds Tryz.pinned (OpenSpec.upto weighsSpec)

/-- 'sketchlaw.Counts', WHERE WHAT IT READS IS OF BULK AT MOST 1048576: true; the input reads as it did. -/
def countsUptoRow : OpenClaim := { program := "ytjhaihbjhikhlaagreat", sum := "b41f1d4684e83a32b9d02c08e3e9cc1650e7034c39989084ade6e1626a50b317", func := "sketch/sketchlaw.Counts", spec := "counts", inPlace := ["slices.overlaps[sketch/kinds.bucket]"], unfollowed := true, recurses := true, apart := false, narrowed := true }
def CountsUptoSaid : Prop := countsUptoRow.holds Tryz.pinned (OpenSpec.upto countsSpec)

/-- 'sketchlaw.Asks', WHERE WHAT IT READS IS OF BULK AT MOST 1048576: true; the input reads as it did. -/
def asksUptoRow : OpenClaim := { program := "ytjhaihbjhikhlaagreat", sum := "b41f1d4684e83a32b9d02c08e3e9cc1650e7034c39989084ade6e1626a50b317", func := "sketch/sketchlaw.Asks", spec := "asks", inPlace := ["slices.overlaps[sketch/kinds.bucket]"], unfollowed := true, recurses := true, apart := false, narrowed := true }
def AsksUptoSaid : Prop := asksUptoRow.holds Tryz.pinned (OpenSpec.upto asksSpec)

end Rows
end Go.Proofs.YtjhaihbjhikhlaaGreat
