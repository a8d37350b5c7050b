/-
  No cell of these rows narrows 'for every input' (looked for: loops, veiled, ifaces, maps, wideKeys, modest, calm, conditions, laid).
  DERIVED. THE GIVEN ROWS OF THIS SEAT. 15 by the template 'for every input the law returns true; each argument reads behind the call as it read before'; 0 by the template 'total and deterministic' (their statements: YtbdfnkhmnglpbaaTotals.lean).
  GIVEN WITH THE SEED: the statements are not yours to turn. If you find one false, say at which input.
  Laid BY PROGRAM, IN A SANDBOX (cutbox-rows.mjs): the forced cells as the released guide's own fill.sh prints them over the translation 89c5515b2726b44d… (all of the seat's roots in one cut). By AI agents, Wed Nov 11 2026. No macro, syntax, notation, axiom, sorry.
-/
import Derived.Test.YtbdfnkhmnglpbaaChecked
import GoSem.Claim
import GoSem.ClaimJoined
import GoSem.ClaimMapViews
import Derived.JoinedTies
import Derived.KernelRfl
namespace Go.Proofs.Ytbdfnkhmnglpbaa
/- THE CELL 'sum', in the pinned program and in every row, IS THE sha256 OF THE DUMP (.gsa) THAT YtbdfnkhmnglpbaaProg.lean LOADS. Nothing in Lean hashes anything: it is a label: what it is worth is what the hold of that sum in a sandbox is worth. -/
noncomputable def Try.pinned : Pinned := { name := "ytbdfnkhmnglpbaa", sum := "89c5515b2726b44d02d8ddac0356e460bcbad64c15e4688e44f734113614c16a", checked := Try.checked }
namespace Rows
def none {H : Type} : Left H := { results := [], args := [] }

/-- 'laws.FnSeals': WHATEVER THE INPUT: true; the input reads as it did. -/
def fnSealsSpec : ChangeSpec := { name := "fnSeals", fn := fun _ => fun
  | [d] => { results := [.lit (.bool true)], args := [d] }
  | _ => none }
def fnSealsRow : OpenClaim := { program := "ytbdfnkhmnglpbaa", sum := "89c5515b2726b44d02d8ddac0356e460bcbad64c15e4688e44f734113614c16a", func := "loop.example/g00833/laws.FnSeals", spec := "fnSeals", unfollowed := true, recurses := true, apart := false }
def FnSealsSaid : Prop := fnSealsRow.holds Try.pinned (OpenSpec.ofChange fnSealsSpec)

/-- ITS FALSE NEIGHBOUR: 'it returns false'. Refute it at one input. -/
def fnSealsWrong : ChangeSpec := { name := "fnSeals", fn := fun _ => fun
  | [d] => { results := [.lit (.bool false)], args := [d] }
  | _ => none }
def FnSealsWrongFalsely : Prop := fnSealsRow.holds Try.pinned (OpenSpec.ofChange fnSealsWrong)

/-- 'laws.FnOpened': WHATEVER THE INPUT: true; the input reads as it did. -/
def fnOpenedSpec : ChangeSpec := { name := "fnOpened", fn := fun _ => fun
  | [d] => { results := [.lit (.bool true)], args := [d] }
  | _ => none }
def fnOpenedRow : OpenClaim := { program := "ytbdfnkhmnglpbaa", sum := "89c5515b2726b44d02d8ddac0356e460bcbad64c15e4688e44f734113614c16a", func := "loop.example/g00833/laws.FnOpened", spec := "fnOpened", unfollowed := true, recurses := true, apart := false }
def FnOpenedSaid : Prop := fnOpenedRow.holds Try.pinned (OpenSpec.ofChange fnOpenedSpec)

/-- ITS FALSE NEIGHBOUR: 'it returns false'. Refute it at one input. -/
def fnOpenedWrong : ChangeSpec := { name := "fnOpened", fn := fun _ => fun
  | [d] => { results := [.lit (.bool false)], args := [d] }
  | _ => none }
def FnOpenedWrongFalsely : Prop := fnOpenedRow.holds Try.pinned (OpenSpec.ofChange fnOpenedWrong)

/-- 'laws.FnDamagedSeals': WHATEVER THE INPUT: true; the input reads as it did. -/
def fnDamagedSealsSpec : ChangeSpec := { name := "fnDamagedSeals", fn := fun _ => fun
  | [d] => { results := [.lit (.bool true)], args := [d] }
  | _ => none }
def fnDamagedSealsRow : OpenClaim := { program := "ytbdfnkhmnglpbaa", sum := "89c5515b2726b44d02d8ddac0356e460bcbad64c15e4688e44f734113614c16a", func := "loop.example/g00833/laws.FnDamagedSeals", spec := "fnDamagedSeals", unfollowed := true, recurses := true, apart := false }
def FnDamagedSealsSaid : Prop := fnDamagedSealsRow.holds Try.pinned (OpenSpec.ofChange fnDamagedSealsSpec)

/-- ITS FALSE NEIGHBOUR: 'it returns false'. Refute it at one input. -/
def fnDamagedSealsWrong : ChangeSpec := { name := "fnDamagedSeals", fn := fun _ => fun
  | [d] => { results := [.lit (.bool false)], args := [d] }
  | _ => none }
def FnDamagedSealsWrongFalsely : Prop := fnDamagedSealsRow.holds Try.pinned (OpenSpec.ofChange fnDamagedSealsWrong)

/-- 'laws.FnDescriptors': WHATEVER THE INPUT: true; the input reads as it did. -/
def fnDescriptorsSpec : ChangeSpec := { name := "fnDescriptors", fn := fun _ => fun
  | [d] => { results := [.lit (.bool true)], args := [d] }
  | _ => none }
def fnDescriptorsRow : OpenClaim := { program := "ytbdfnkhmnglpbaa", sum := "89c5515b2726b44d02d8ddac0356e460bcbad64c15e4688e44f734113614c16a", func := "loop.example/g00833/laws.FnDescriptors", spec := "fnDescriptors", unfollowed := true, recurses := true, apart := false }
def FnDescriptorsSaid : Prop := fnDescriptorsRow.holds Try.pinned (OpenSpec.ofChange fnDescriptorsSpec)

/-- ITS FALSE NEIGHBOUR: 'it returns false'. Refute it at one input. -/
def fnDescriptorsWrong : ChangeSpec := { name := "fnDescriptors", fn := fun _ => fun
  | [d] => { results := [.lit (.bool false)], args := [d] }
  | _ => none }
def FnDescriptorsWrongFalsely : Prop := fnDescriptorsRow.holds Try.pinned (OpenSpec.ofChange fnDescriptorsWrong)

/-- 'laws.FnFits': WHATEVER THE INPUT: true; the input reads as it did. -/
def fnFitsSpec : ChangeSpec := { name := "fnFits", fn := fun _ => fun
  | [d] => { results := [.lit (.bool true)], args := [d] }
  | _ => none }
def fnFitsRow : OpenClaim := { program := "ytbdfnkhmnglpbaa", sum := "89c5515b2726b44d02d8ddac0356e460bcbad64c15e4688e44f734113614c16a", func := "loop.example/g00833/laws.FnFits", spec := "fnFits", unfollowed := true, recurses := true, apart := false }
def FnFitsSaid : Prop := fnFitsRow.holds Try.pinned (OpenSpec.ofChange fnFitsSpec)

/-- ITS FALSE NEIGHBOUR: 'it returns false'. Refute it at one input. -/
def fnFitsWrong : ChangeSpec := { name := "fnFits", fn := fun _ => fun
  | [d] => { results := [.lit (.bool false)], args := [d] }
  | _ => none }
def FnFitsWrongFalsely : Prop := fnFitsRow.holds Try.pinned (OpenSpec.ofChange fnFitsWrong)

/-- 'laws.FnExactSealFrame': WHATEVER THE INPUT: true; the input reads as it did. -/
def fnExactSealFrameSpec : ChangeSpec := { name := "fnExactSealFrame", fn := fun _ => fun
  | [d1, d2, d3] => { results := [.lit (.bool true)], args := [d1, d2, d3] }
  | _ => none }
def fnExactSealFrameRow : OpenClaim := { program := "ytbdfnkhmnglpbaa", sum := "89c5515b2726b44d02d8ddac0356e460bcbad64c15e4688e44f734113614c16a", func := "loop.example/g00833/laws.FnExactSealFrame", spec := "fnExactSealFrame", unfollowed := true, recurses := true, apart := false }
def FnExactSealFrameSaid : Prop := fnExactSealFrameRow.holds Try.pinned (OpenSpec.ofChange fnExactSealFrameSpec)

/-- ITS FALSE NEIGHBOUR: 'it returns false'. Refute it at one input. -/
def fnExactSealFrameWrong : ChangeSpec := { name := "fnExactSealFrame", fn := fun _ => fun
  | [d1, d2, d3] => { results := [.lit (.bool false)], args := [d1, d2, d3] }
  | _ => none }
def FnExactSealFrameWrongFalsely : Prop := fnExactSealFrameRow.holds Try.pinned (OpenSpec.ofChange fnExactSealFrameWrong)

/-- 'laws.FnExactOpenFrame': WHATEVER THE INPUT: true; the input reads as it did. -/
def fnExactOpenFrameSpec : ChangeSpec := { name := "fnExactOpenFrame", fn := fun _ => fun
  | [d1, d2, d3] => { results := [.lit (.bool true)], args := [d1, d2, d3] }
  | _ => none }
def fnExactOpenFrameRow : OpenClaim := { program := "ytbdfnkhmnglpbaa", sum := "89c5515b2726b44d02d8ddac0356e460bcbad64c15e4688e44f734113614c16a", func := "loop.example/g00833/laws.FnExactOpenFrame", spec := "fnExactOpenFrame", unfollowed := true, recurses := true, apart := false }
def FnExactOpenFrameSaid : Prop := fnExactOpenFrameRow.holds Try.pinned (OpenSpec.ofChange fnExactOpenFrameSpec)

/-- ITS FALSE NEIGHBOUR: 'it returns false'. Refute it at one input. -/
def fnExactOpenFrameWrong : ChangeSpec := { name := "fnExactOpenFrame", fn := fun _ => fun
  | [d1, d2, d3] => { results := [.lit (.bool false)], args := [d1, d2, d3] }
  | _ => none }
def FnExactOpenFrameWrongFalsely : Prop := fnExactOpenFrameRow.holds Try.pinned (OpenSpec.ofChange fnExactOpenFrameWrong)

/-- 'laws.FnExactIsOpenable': WHATEVER THE INPUT: true; the input reads as it did. -/
def fnExactIsOpenableSpec : ChangeSpec := { name := "fnExactIsOpenable", fn := fun _ => fun
  | [d1, d2, d3] => { results := [.lit (.bool true)], args := [d1, d2, d3] }
  | _ => none }
def fnExactIsOpenableRow : OpenClaim := { program := "ytbdfnkhmnglpbaa", sum := "89c5515b2726b44d02d8ddac0356e460bcbad64c15e4688e44f734113614c16a", func := "loop.example/g00833/laws.FnExactIsOpenable", spec := "fnExactIsOpenable", unfollowed := true, recurses := true, apart := false }
def FnExactIsOpenableSaid : Prop := fnExactIsOpenableRow.holds Try.pinned (OpenSpec.ofChange fnExactIsOpenableSpec)

/-- ITS FALSE NEIGHBOUR: 'it returns false'. Refute it at one input. -/
def fnExactIsOpenableWrong : ChangeSpec := { name := "fnExactIsOpenable", fn := fun _ => fun
  | [d1, d2, d3] => { results := [.lit (.bool false)], args := [d1, d2, d3] }
  | _ => none }
def FnExactIsOpenableWrongFalsely : Prop := fnExactIsOpenableRow.holds Try.pinned (OpenSpec.ofChange fnExactIsOpenableWrong)

/-- 'laws.FnExactIsDescriptor': WHATEVER THE INPUT: true; the input reads as it did. -/
def fnExactIsDescriptorSpec : ChangeSpec := { name := "fnExactIsDescriptor", fn := fun _ => fun
  | [d] => { results := [.lit (.bool true)], args := [d] }
  | _ => none }
def fnExactIsDescriptorRow : OpenClaim := { program := "ytbdfnkhmnglpbaa", sum := "89c5515b2726b44d02d8ddac0356e460bcbad64c15e4688e44f734113614c16a", func := "loop.example/g00833/laws.FnExactIsDescriptor", spec := "fnExactIsDescriptor", unfollowed := true, recurses := true, apart := false }
def FnExactIsDescriptorSaid : Prop := fnExactIsDescriptorRow.holds Try.pinned (OpenSpec.ofChange fnExactIsDescriptorSpec)

/-- ITS FALSE NEIGHBOUR: 'it returns false'. Refute it at one input. -/
def fnExactIsDescriptorWrong : ChangeSpec := { name := "fnExactIsDescriptor", fn := fun _ => fun
  | [d] => { results := [.lit (.bool false)], args := [d] }
  | _ => none }
def FnExactIsDescriptorWrongFalsely : Prop := fnExactIsDescriptorRow.holds Try.pinned (OpenSpec.ofChange fnExactIsDescriptorWrong)

/-- 'laws.FnExactFitsDescriptor': WHATEVER THE INPUT: true; the input reads as it did. -/
def fnExactFitsDescriptorSpec : ChangeSpec := { name := "fnExactFitsDescriptor", fn := fun _ => fun
  | [d1, d2] => { results := [.lit (.bool true)], args := [d1, d2] }
  | _ => none }
def fnExactFitsDescriptorRow : OpenClaim := { program := "ytbdfnkhmnglpbaa", sum := "89c5515b2726b44d02d8ddac0356e460bcbad64c15e4688e44f734113614c16a", func := "loop.example/g00833/laws.FnExactFitsDescriptor", spec := "fnExactFitsDescriptor", unfollowed := true, recurses := true, apart := false }
def FnExactFitsDescriptorSaid : Prop := fnExactFitsDescriptorRow.holds Try.pinned (OpenSpec.ofChange fnExactFitsDescriptorSpec)

/-- ITS FALSE NEIGHBOUR: 'it returns false'. Refute it at one input. -/
def fnExactFitsDescriptorWrong : ChangeSpec := { name := "fnExactFitsDescriptor", fn := fun _ => fun
  | [d1, d2] => { results := [.lit (.bool false)], args := [d1, d2] }
  | _ => none }
def FnExactFitsDescriptorWrongFalsely : Prop := fnExactFitsDescriptorRow.holds Try.pinned (OpenSpec.ofChange fnExactFitsDescriptorWrong)

/-- 'laws.FnExactCellsNeeded': WHATEVER THE INPUT: true; the input reads as it did. -/
def fnExactCellsNeededSpec : ChangeSpec := { name := "fnExactCellsNeeded", fn := fun _ => fun
  | [d1, d2] => { results := [.lit (.bool true)], args := [d1, d2] }
  | _ => none }
def fnExactCellsNeededRow : OpenClaim := { program := "ytbdfnkhmnglpbaa", sum := "89c5515b2726b44d02d8ddac0356e460bcbad64c15e4688e44f734113614c16a", func := "loop.example/g00833/laws.FnExactCellsNeeded", spec := "fnExactCellsNeeded", unfollowed := true, recurses := true, apart := false }
def FnExactCellsNeededSaid : Prop := fnExactCellsNeededRow.holds Try.pinned (OpenSpec.ofChange fnExactCellsNeededSpec)

/-- ITS FALSE NEIGHBOUR: 'it returns false'. Refute it at one input. -/
def fnExactCellsNeededWrong : ChangeSpec := { name := "fnExactCellsNeeded", fn := fun _ => fun
  | [d1, d2] => { results := [.lit (.bool false)], args := [d1, d2] }
  | _ => none }
def FnExactCellsNeededWrongFalsely : Prop := fnExactCellsNeededRow.holds Try.pinned (OpenSpec.ofChange fnExactCellsNeededWrong)

/-- 'laws.FnExactPauseOf': WHATEVER THE INPUT: true; the input reads as it did. -/
def fnExactPauseOfSpec : ChangeSpec := { name := "fnExactPauseOf", fn := fun _ => fun
  | [d] => { results := [.lit (.bool true)], args := [d] }
  | _ => none }
def fnExactPauseOfRow : OpenClaim := { program := "ytbdfnkhmnglpbaa", sum := "89c5515b2726b44d02d8ddac0356e460bcbad64c15e4688e44f734113614c16a", func := "loop.example/g00833/laws.FnExactPauseOf", spec := "fnExactPauseOf", unfollowed := true, recurses := true, apart := false }
def FnExactPauseOfSaid : Prop := fnExactPauseOfRow.holds Try.pinned (OpenSpec.ofChange fnExactPauseOfSpec)

/-- ITS FALSE NEIGHBOUR: 'it returns false'. Refute it at one input. -/
def fnExactPauseOfWrong : ChangeSpec := { name := "fnExactPauseOf", fn := fun _ => fun
  | [d] => { results := [.lit (.bool false)], args := [d] }
  | _ => none }
def FnExactPauseOfWrongFalsely : Prop := fnExactPauseOfRow.holds Try.pinned (OpenSpec.ofChange fnExactPauseOfWrong)

/-- 'laws.FnExactDescriptorToBytes': WHATEVER THE INPUT: true; the input reads as it did. -/
def fnExactDescriptorToBytesSpec : ChangeSpec := { name := "fnExactDescriptorToBytes", fn := fun _ => fun
  | [d] => { results := [.lit (.bool true)], args := [d] }
  | _ => none }
def fnExactDescriptorToBytesRow : OpenClaim := { program := "ytbdfnkhmnglpbaa", sum := "89c5515b2726b44d02d8ddac0356e460bcbad64c15e4688e44f734113614c16a", func := "loop.example/g00833/laws.FnExactDescriptorToBytes", spec := "fnExactDescriptorToBytes", unfollowed := true, recurses := true, apart := false }
def FnExactDescriptorToBytesSaid : Prop := fnExactDescriptorToBytesRow.holds Try.pinned (OpenSpec.ofChange fnExactDescriptorToBytesSpec)

/-- ITS FALSE NEIGHBOUR: 'it returns false'. Refute it at one input. -/
def fnExactDescriptorToBytesWrong : ChangeSpec := { name := "fnExactDescriptorToBytes", fn := fun _ => fun
  | [d] => { results := [.lit (.bool false)], args := [d] }
  | _ => none }
def FnExactDescriptorToBytesWrongFalsely : Prop := fnExactDescriptorToBytesRow.holds Try.pinned (OpenSpec.ofChange fnExactDescriptorToBytesWrong)

/-- 'laws.FnExactDescriptorFromBytes': WHATEVER THE INPUT: true; the input reads as it did. -/
def fnExactDescriptorFromBytesSpec : ChangeSpec := { name := "fnExactDescriptorFromBytes", fn := fun _ => fun
  | [d] => { results := [.lit (.bool true)], args := [d] }
  | _ => none }
def fnExactDescriptorFromBytesRow : OpenClaim := { program := "ytbdfnkhmnglpbaa", sum := "89c5515b2726b44d02d8ddac0356e460bcbad64c15e4688e44f734113614c16a", func := "loop.example/g00833/laws.FnExactDescriptorFromBytes", spec := "fnExactDescriptorFromBytes", unfollowed := true, recurses := true, apart := false }
def FnExactDescriptorFromBytesSaid : Prop := fnExactDescriptorFromBytesRow.holds Try.pinned (OpenSpec.ofChange fnExactDescriptorFromBytesSpec)

/-- ITS FALSE NEIGHBOUR: 'it returns false'. Refute it at one input. -/
def fnExactDescriptorFromBytesWrong : ChangeSpec := { name := "fnExactDescriptorFromBytes", fn := fun _ => fun
  | [d] => { results := [.lit (.bool false)], args := [d] }
  | _ => none }
def FnExactDescriptorFromBytesWrongFalsely : Prop := fnExactDescriptorFromBytesRow.holds Try.pinned (OpenSpec.ofChange fnExactDescriptorFromBytesWrong)

/-- 'laws.FnExactEmptyFrame': WHATEVER THE INPUT: true; the input reads as it did. -/
def fnExactEmptyFrameSpec : ChangeSpec := { name := "fnExactEmptyFrame", fn := fun _ => fun
  | [d1, d2] => { results := [.lit (.bool true)], args := [d1, d2] }
  | _ => none }
def fnExactEmptyFrameRow : OpenClaim := { program := "ytbdfnkhmnglpbaa", sum := "89c5515b2726b44d02d8ddac0356e460bcbad64c15e4688e44f734113614c16a", func := "loop.example/g00833/laws.FnExactEmptyFrame", spec := "fnExactEmptyFrame", unfollowed := true, recurses := true, apart := false }
def FnExactEmptyFrameSaid : Prop := fnExactEmptyFrameRow.holds Try.pinned (OpenSpec.ofChange fnExactEmptyFrameSpec)

/-- ITS FALSE NEIGHBOUR: 'it returns false'. Refute it at one input. -/
def fnExactEmptyFrameWrong : ChangeSpec := { name := "fnExactEmptyFrame", fn := fun _ => fun
  | [d1, d2] => { results := [.lit (.bool false)], args := [d1, d2] }
  | _ => none }
def FnExactEmptyFrameWrongFalsely : Prop := fnExactEmptyFrameRow.holds Try.pinned (OpenSpec.ofChange fnExactEmptyFrameWrong)

/- THE SECOND FORM. 'bulk': how many values and letters a reading holds, each counted each time it is reached (what is shared counts as often as it is met; a slice's spare places count too). A statement '..UptoSaid' is the law's where the arguments, and the package variables that the reading takes, are together of bulk at most 1048576: NARROWER than '..Said'. Prove '..Said' where nothing that the law and all that it calls make is longer than what came in: it says more and counts as full. Else prove '..UptoSaid'. A law counts once. -/
mutual
def uptoBulk {H : Type} : DataW H → Nat
  | .lit (.string bytes) => bytes.length + 1
  | .lit _ => 1
  | .nil => 1
  | .ptr d => uptoBulk d + 1
  | .slice elems spare => uptoBulkAll elems + uptoBulkAll spare + 1
  | .agg parts => uptoBulkAll parts + 1
  | .iface _ d => uptoBulk d + 1
  | .map entries => uptoBulkEntries entries + 1
  | .held _ => 1
def uptoBulkAll {H : Type} : List (DataW H) → Nat
  | [] => 0
  | d :: r => uptoBulk d + uptoBulkAll r
def uptoBulkEntries {H : Type} : List (Lit × DataW H) → Nat
  | [] => 0
  | x :: r => uptoBulkEntry x + uptoBulkEntries r
def uptoBulkEntry {H : Type} : Lit × DataW H → Nat
  | (.string bytes, d) => bytes.length + uptoBulk d + 1
  | (_, d) => uptoBulk d + 1
 end
def uptoSmall : (H : Type) → List (DataW H) → Bool := fun _ ds => decide (uptoBulkAll ds ≤ 1048576)
def OpenSpec.upto (s : _root_.Go.ChangeSpec) : _root_.Go.OpenSpec := { _root_.Go.OpenSpec.ofChange s with cond := some uptoSmall }

/-- 'laws.FnSeals', WHERE WHAT IT READS IS OF BULK AT MOST 1048576: true; the input reads as it did. -/
def fnSealsUptoRow : OpenClaim := { program := "ytbdfnkhmnglpbaa", sum := "89c5515b2726b44d02d8ddac0356e460bcbad64c15e4688e44f734113614c16a", func := "loop.example/g00833/laws.FnSeals", spec := "fnSeals", unfollowed := true, recurses := true, apart := false, narrowed := true }
def FnSealsUptoSaid : Prop := fnSealsUptoRow.holds Try.pinned (OpenSpec.upto fnSealsSpec)

/-- 'laws.FnOpened', WHERE WHAT IT READS IS OF BULK AT MOST 1048576: true; the input reads as it did. -/
def fnOpenedUptoRow : OpenClaim := { program := "ytbdfnkhmnglpbaa", sum := "89c5515b2726b44d02d8ddac0356e460bcbad64c15e4688e44f734113614c16a", func := "loop.example/g00833/laws.FnOpened", spec := "fnOpened", unfollowed := true, recurses := true, apart := false, narrowed := true }
def FnOpenedUptoSaid : Prop := fnOpenedUptoRow.holds Try.pinned (OpenSpec.upto fnOpenedSpec)

/-- 'laws.FnDamagedSeals', WHERE WHAT IT READS IS OF BULK AT MOST 1048576: true; the input reads as it did. -/
def fnDamagedSealsUptoRow : OpenClaim := { program := "ytbdfnkhmnglpbaa", sum := "89c5515b2726b44d02d8ddac0356e460bcbad64c15e4688e44f734113614c16a", func := "loop.example/g00833/laws.FnDamagedSeals", spec := "fnDamagedSeals", unfollowed := true, recurses := true, apart := false, narrowed := true }
def FnDamagedSealsUptoSaid : Prop := fnDamagedSealsUptoRow.holds Try.pinned (OpenSpec.upto fnDamagedSealsSpec)

/-- 'laws.FnDescriptors', WHERE WHAT IT READS IS OF BULK AT MOST 1048576: true; the input reads as it did. -/
def fnDescriptorsUptoRow : OpenClaim := { program := "ytbdfnkhmnglpbaa", sum := "89c5515b2726b44d02d8ddac0356e460bcbad64c15e4688e44f734113614c16a", func := "loop.example/g00833/laws.FnDescriptors", spec := "fnDescriptors", unfollowed := true, recurses := true, apart := false, narrowed := true }
def FnDescriptorsUptoSaid : Prop := fnDescriptorsUptoRow.holds Try.pinned (OpenSpec.upto fnDescriptorsSpec)

/-- 'laws.FnFits', WHERE WHAT IT READS IS OF BULK AT MOST 1048576: true; the input reads as it did. -/
def fnFitsUptoRow : OpenClaim := { program := "ytbdfnkhmnglpbaa", sum := "89c5515b2726b44d02d8ddac0356e460bcbad64c15e4688e44f734113614c16a", func := "loop.example/g00833/laws.FnFits", spec := "fnFits", unfollowed := true, recurses := true, apart := false, narrowed := true }
def FnFitsUptoSaid : Prop := fnFitsUptoRow.holds Try.pinned (OpenSpec.upto fnFitsSpec)

/-- 'laws.FnExactSealFrame', WHERE WHAT IT READS IS OF BULK AT MOST 1048576: true; the input reads as it did. -/
def fnExactSealFrameUptoRow : OpenClaim := { program := "ytbdfnkhmnglpbaa", sum := "89c5515b2726b44d02d8ddac0356e460bcbad64c15e4688e44f734113614c16a", func := "loop.example/g00833/laws.FnExactSealFrame", spec := "fnExactSealFrame", unfollowed := true, recurses := true, apart := false, narrowed := true }
def FnExactSealFrameUptoSaid : Prop := fnExactSealFrameUptoRow.holds Try.pinned (OpenSpec.upto fnExactSealFrameSpec)

/-- 'laws.FnExactOpenFrame', WHERE WHAT IT READS IS OF BULK AT MOST 1048576: true; the input reads as it did. -/
def fnExactOpenFrameUptoRow : OpenClaim := { program := "ytbdfnkhmnglpbaa", sum := "89c5515b2726b44d02d8ddac0356e460bcbad64c15e4688e44f734113614c16a", func := "loop.example/g00833/laws.FnExactOpenFrame", spec := "fnExactOpenFrame", unfollowed := true, recurses := true, apart := false, narrowed := true }
def FnExactOpenFrameUptoSaid : Prop := fnExactOpenFrameUptoRow.holds Try.pinned (OpenSpec.upto fnExactOpenFrameSpec)

/-- 'laws.FnExactIsOpenable', WHERE WHAT IT READS IS OF BULK AT MOST 1048576: true; the input reads as it did. -/
def fnExactIsOpenableUptoRow : OpenClaim := { program := "ytbdfnkhmnglpbaa", sum := "89c5515b2726b44d02d8ddac0356e460bcbad64c15e4688e44f734113614c16a", func := "loop.example/g00833/laws.FnExactIsOpenable", spec := "fnExactIsOpenable", unfollowed := true, recurses := true, apart := false, narrowed := true }
def FnExactIsOpenableUptoSaid : Prop := fnExactIsOpenableUptoRow.holds Try.pinned (OpenSpec.upto fnExactIsOpenableSpec)

/-- 'laws.FnExactIsDescriptor', WHERE WHAT IT READS IS OF BULK AT MOST 1048576: true; the input reads as it did. -/
def fnExactIsDescriptorUptoRow : OpenClaim := { program := "ytbdfnkhmnglpbaa", sum := "89c5515b2726b44d02d8ddac0356e460bcbad64c15e4688e44f734113614c16a", func := "loop.example/g00833/laws.FnExactIsDescriptor", spec := "fnExactIsDescriptor", unfollowed := true, recurses := true, apart := false, narrowed := true }
def FnExactIsDescriptorUptoSaid : Prop := fnExactIsDescriptorUptoRow.holds Try.pinned (OpenSpec.upto fnExactIsDescriptorSpec)

/-- 'laws.FnExactFitsDescriptor', WHERE WHAT IT READS IS OF BULK AT MOST 1048576: true; the input reads as it did. -/
def fnExactFitsDescriptorUptoRow : OpenClaim := { program := "ytbdfnkhmnglpbaa", sum := "89c5515b2726b44d02d8ddac0356e460bcbad64c15e4688e44f734113614c16a", func := "loop.example/g00833/laws.FnExactFitsDescriptor", spec := "fnExactFitsDescriptor", unfollowed := true, recurses := true, apart := false, narrowed := true }
def FnExactFitsDescriptorUptoSaid : Prop := fnExactFitsDescriptorUptoRow.holds Try.pinned (OpenSpec.upto fnExactFitsDescriptorSpec)

/-- 'laws.FnExactCellsNeeded', WHERE WHAT IT READS IS OF BULK AT MOST 1048576: true; the input reads as it did. -/
def fnExactCellsNeededUptoRow : OpenClaim := { program := "ytbdfnkhmnglpbaa", sum := "89c5515b2726b44d02d8ddac0356e460bcbad64c15e4688e44f734113614c16a", func := "loop.example/g00833/laws.FnExactCellsNeeded", spec := "fnExactCellsNeeded", unfollowed := true, recurses := true, apart := false, narrowed := true }
def FnExactCellsNeededUptoSaid : Prop := fnExactCellsNeededUptoRow.holds Try.pinned (OpenSpec.upto fnExactCellsNeededSpec)

/-- 'laws.FnExactPauseOf', WHERE WHAT IT READS IS OF BULK AT MOST 1048576: true; the input reads as it did. -/
def fnExactPauseOfUptoRow : OpenClaim := { program := "ytbdfnkhmnglpbaa", sum := "89c5515b2726b44d02d8ddac0356e460bcbad64c15e4688e44f734113614c16a", func := "loop.example/g00833/laws.FnExactPauseOf", spec := "fnExactPauseOf", unfollowed := true, recurses := true, apart := false, narrowed := true }
def FnExactPauseOfUptoSaid : Prop := fnExactPauseOfUptoRow.holds Try.pinned (OpenSpec.upto fnExactPauseOfSpec)

/-- 'laws.FnExactDescriptorToBytes', WHERE WHAT IT READS IS OF BULK AT MOST 1048576: true; the input reads as it did. -/
def fnExactDescriptorToBytesUptoRow : OpenClaim := { program := "ytbdfnkhmnglpbaa", sum := "89c5515b2726b44d02d8ddac0356e460bcbad64c15e4688e44f734113614c16a", func := "loop.example/g00833/laws.FnExactDescriptorToBytes", spec := "fnExactDescriptorToBytes", unfollowed := true, recurses := true, apart := false, narrowed := true }
def FnExactDescriptorToBytesUptoSaid : Prop := fnExactDescriptorToBytesUptoRow.holds Try.pinned (OpenSpec.upto fnExactDescriptorToBytesSpec)

/-- 'laws.FnExactDescriptorFromBytes', WHERE WHAT IT READS IS OF BULK AT MOST 1048576: true; the input reads as it did. -/
def fnExactDescriptorFromBytesUptoRow : OpenClaim := { program := "ytbdfnkhmnglpbaa", sum := "89c5515b2726b44d02d8ddac0356e460bcbad64c15e4688e44f734113614c16a", func := "loop.example/g00833/laws.FnExactDescriptorFromBytes", spec := "fnExactDescriptorFromBytes", unfollowed := true, recurses := true, apart := false, narrowed := true }
def FnExactDescriptorFromBytesUptoSaid : Prop := fnExactDescriptorFromBytesUptoRow.holds Try.pinned (OpenSpec.upto fnExactDescriptorFromBytesSpec)

/-- 'laws.FnExactEmptyFrame', WHERE WHAT IT READS IS OF BULK AT MOST 1048576: true; the input reads as it did. -/
def fnExactEmptyFrameUptoRow : OpenClaim := { program := "ytbdfnkhmnglpbaa", sum := "89c5515b2726b44d02d8ddac0356e460bcbad64c15e4688e44f734113614c16a", func := "loop.example/g00833/laws.FnExactEmptyFrame", spec := "fnExactEmptyFrame", unfollowed := true, recurses := true, apart := false, narrowed := true }
def FnExactEmptyFrameUptoSaid : Prop := fnExactEmptyFrameUptoRow.holds Try.pinned (OpenSpec.upto fnExactEmptyFrameSpec)

end Rows
end Go.Proofs.Ytbdfnkhmnglpbaa
