/-
  No cell of these rows narrows 'for every input' (looked for: loops, veiled, ifaces, maps, wideKeys, modest, calm, conditions, laid).
  DERIVED. THE GIVEN ROWS OF THIS SEAT. 6 by the template 'for every input the law returns true; each argument reads behind the call as it read before'; 0 by the template 'total and deterministic' (their statements: YtckaknaeddiphaaTotals.lean).
  GIVEN WITH THE SEED: the statements are not yours to turn. If you find one false, say at which input.
  Laid BY PROGRAM, IN A SANDBOX (cutbox-rows.mjs): the forced cells as the released guide's own fill.sh prints them over the translation 174d6ea53c23fbe4… (all of the seat's roots in one cut). By AI agents, Wed Nov 11 2026. No macro, syntax, notation, axiom, sorry.
-/
import Derived.Test.YtckaknaeddiphaaChecked
import GoSem.Claim
import GoSem.ClaimJoined
import GoSem.ClaimMapViews
import Derived.JoinedTies
import Derived.KernelRfl
namespace Go.Proofs.Ytckaknaeddiphaa
/- THE CELL 'sum', in the pinned program and in every row, IS THE sha256 OF THE DUMP (.gsa) THAT YtckaknaeddiphaaProg.lean LOADS. Nothing in Lean hashes anything: it is a label: what it is worth is what the hold of that sum in a sandbox is worth. -/
noncomputable def Try.pinned : Pinned := { name := "ytckaknaeddiphaa", sum := "174d6ea53c23fbe4b46dc8c9271d29e328f1a6b5f09a24cfb730cd97c02a5326", checked := Try.checked }
namespace Rows
def none {H : Type} : Left H := { results := [], args := [] }

/-- 'laws.FnImages': WHATEVER THE INPUT: true; the input reads as it did. -/
def fnImagesSpec : ChangeSpec := { name := "fnImages", fn := fun _ => fun
  | [d] => { results := [.lit (.bool true)], args := [d] }
  | _ => none }
def fnImagesRow : OpenClaim := { program := "ytckaknaeddiphaa", sum := "174d6ea53c23fbe4b46dc8c9271d29e328f1a6b5f09a24cfb730cd97c02a5326", func := "loop.example/g00833/laws.FnImages", spec := "fnImages", unfollowed := true, recurses := true, apart := false }
def FnImagesSaid : Prop := fnImagesRow.holds Try.pinned (OpenSpec.ofChange fnImagesSpec)

/-- ITS FALSE NEIGHBOUR: 'it returns false'. Refute it at one input. -/
def fnImagesWrong : ChangeSpec := { name := "fnImages", fn := fun _ => fun
  | [d] => { results := [.lit (.bool false)], args := [d] }
  | _ => none }
def FnImagesWrongFalsely : Prop := fnImagesRow.holds Try.pinned (OpenSpec.ofChange fnImagesWrong)

/-- 'laws.FnImagesRead': WHATEVER THE INPUT: true; the input reads as it did. -/
def fnImagesReadSpec : ChangeSpec := { name := "fnImagesRead", fn := fun _ => fun
  | [d] => { results := [.lit (.bool true)], args := [d] }
  | _ => none }
def fnImagesReadRow : OpenClaim := { program := "ytckaknaeddiphaa", sum := "174d6ea53c23fbe4b46dc8c9271d29e328f1a6b5f09a24cfb730cd97c02a5326", func := "loop.example/g00833/laws.FnImagesRead", spec := "fnImagesRead", unfollowed := true, recurses := true, apart := false }
def FnImagesReadSaid : Prop := fnImagesReadRow.holds Try.pinned (OpenSpec.ofChange fnImagesReadSpec)

/-- ITS FALSE NEIGHBOUR: 'it returns false'. Refute it at one input. -/
def fnImagesReadWrong : ChangeSpec := { name := "fnImagesRead", fn := fun _ => fun
  | [d] => { results := [.lit (.bool false)], args := [d] }
  | _ => none }
def FnImagesReadWrongFalsely : Prop := fnImagesReadRow.holds Try.pinned (OpenSpec.ofChange fnImagesReadWrong)

/-- 'laws.FnDamagedBlocks': WHATEVER THE INPUT: true; the input reads as it did. -/
def fnDamagedBlocksSpec : ChangeSpec := { name := "fnDamagedBlocks", fn := fun _ => fun
  | [d] => { results := [.lit (.bool true)], args := [d] }
  | _ => none }
def fnDamagedBlocksRow : OpenClaim := { program := "ytckaknaeddiphaa", sum := "174d6ea53c23fbe4b46dc8c9271d29e328f1a6b5f09a24cfb730cd97c02a5326", func := "loop.example/g00833/laws.FnDamagedBlocks", spec := "fnDamagedBlocks", unfollowed := true, recurses := true, apart := false }
def FnDamagedBlocksSaid : Prop := fnDamagedBlocksRow.holds Try.pinned (OpenSpec.ofChange fnDamagedBlocksSpec)

/-- ITS FALSE NEIGHBOUR: 'it returns false'. Refute it at one input. -/
def fnDamagedBlocksWrong : ChangeSpec := { name := "fnDamagedBlocks", fn := fun _ => fun
  | [d] => { results := [.lit (.bool false)], args := [d] }
  | _ => none }
def FnDamagedBlocksWrongFalsely : Prop := fnDamagedBlocksRow.holds Try.pinned (OpenSpec.ofChange fnDamagedBlocksWrong)

/-- 'laws.FnExactImageOf': WHATEVER THE INPUT: true; the input reads as it did. -/
def fnExactImageOfSpec : ChangeSpec := { name := "fnExactImageOf", fn := fun _ => fun
  | [d] => { results := [.lit (.bool true)], args := [d] }
  | _ => none }
def fnExactImageOfRow : OpenClaim := { program := "ytckaknaeddiphaa", sum := "174d6ea53c23fbe4b46dc8c9271d29e328f1a6b5f09a24cfb730cd97c02a5326", func := "loop.example/g00833/laws.FnExactImageOf", spec := "fnExactImageOf", unfollowed := true, recurses := true, apart := false }
def FnExactImageOfSaid : Prop := fnExactImageOfRow.holds Try.pinned (OpenSpec.ofChange fnExactImageOfSpec)

/-- ITS FALSE NEIGHBOUR: 'it returns false'. Refute it at one input. -/
def fnExactImageOfWrong : ChangeSpec := { name := "fnExactImageOf", fn := fun _ => fun
  | [d] => { results := [.lit (.bool false)], args := [d] }
  | _ => none }
def FnExactImageOfWrongFalsely : Prop := fnExactImageOfRow.holds Try.pinned (OpenSpec.ofChange fnExactImageOfWrong)

/-- 'laws.FnExactDataOfImage': WHATEVER THE INPUT: true; the input reads as it did. -/
def fnExactDataOfImageSpec : ChangeSpec := { name := "fnExactDataOfImage", fn := fun _ => fun
  | [d] => { results := [.lit (.bool true)], args := [d] }
  | _ => none }
def fnExactDataOfImageRow : OpenClaim := { program := "ytckaknaeddiphaa", sum := "174d6ea53c23fbe4b46dc8c9271d29e328f1a6b5f09a24cfb730cd97c02a5326", func := "loop.example/g00833/laws.FnExactDataOfImage", spec := "fnExactDataOfImage", unfollowed := true, recurses := true, apart := false }
def FnExactDataOfImageSaid : Prop := fnExactDataOfImageRow.holds Try.pinned (OpenSpec.ofChange fnExactDataOfImageSpec)

/-- ITS FALSE NEIGHBOUR: 'it returns false'. Refute it at one input. -/
def fnExactDataOfImageWrong : ChangeSpec := { name := "fnExactDataOfImage", fn := fun _ => fun
  | [d] => { results := [.lit (.bool false)], args := [d] }
  | _ => none }
def FnExactDataOfImageWrongFalsely : Prop := fnExactDataOfImageRow.holds Try.pinned (OpenSpec.ofChange fnExactDataOfImageWrong)

/-- 'laws.FnExactDamagedBlocks': WHATEVER THE INPUT: true; the input reads as it did. -/
def fnExactDamagedBlocksSpec : ChangeSpec := { name := "fnExactDamagedBlocks", fn := fun _ => fun
  | [d] => { results := [.lit (.bool true)], args := [d] }
  | _ => none }
def fnExactDamagedBlocksRow : OpenClaim := { program := "ytckaknaeddiphaa", sum := "174d6ea53c23fbe4b46dc8c9271d29e328f1a6b5f09a24cfb730cd97c02a5326", func := "loop.example/g00833/laws.FnExactDamagedBlocks", spec := "fnExactDamagedBlocks", unfollowed := true, recurses := true, apart := false }
def FnExactDamagedBlocksSaid : Prop := fnExactDamagedBlocksRow.holds Try.pinned (OpenSpec.ofChange fnExactDamagedBlocksSpec)

/-- ITS FALSE NEIGHBOUR: 'it returns false'. Refute it at one input. -/
def fnExactDamagedBlocksWrong : ChangeSpec := { name := "fnExactDamagedBlocks", fn := fun _ => fun
  | [d] => { results := [.lit (.bool false)], args := [d] }
  | _ => none }
def FnExactDamagedBlocksWrongFalsely : Prop := fnExactDamagedBlocksRow.holds Try.pinned (OpenSpec.ofChange fnExactDamagedBlocksWrong)

/- THE SECOND FORM. 'bulk': how many values and letters a reading holds, each counted each time it is reached (what is shared counts as often as it is met; a slice's spare places count too). A statement '..UptoSaid' is the law's where the arguments, and the package variables that the reading takes, are together of bulk at most 1048576: NARROWER than '..Said'. Prove '..Said' where nothing that the law and all that it calls make is longer than what came in: it says more and counts as full. Else prove '..UptoSaid'. A law counts once. -/
mutual
def uptoBulk {H : Type} : DataW H → Nat
  | .lit (.string bytes) => bytes.length + 1
  | .lit _ => 1
  | .nil => 1
  | .ptr d => uptoBulk d + 1
  | .slice elems spare => uptoBulkAll elems + uptoBulkAll spare + 1
  | .agg parts => uptoBulkAll parts + 1
  | .iface _ d => uptoBulk d + 1
  | .map entries => uptoBulkEntries entries + 1
  | .held _ => 1
def uptoBulkAll {H : Type} : List (DataW H) → Nat
  | [] => 0
  | d :: r => uptoBulk d + uptoBulkAll r
def uptoBulkEntries {H : Type} : List (Lit × DataW H) → Nat
  | [] => 0
  | x :: r => uptoBulkEntry x + uptoBulkEntries r
def uptoBulkEntry {H : Type} : Lit × DataW H → Nat
  | (.string bytes, d) => bytes.length + uptoBulk d + 1
  | (_, d) => uptoBulk d + 1
 end
def uptoSmall : (H : Type) → List (DataW H) → Bool := fun _ ds => decide (uptoBulkAll ds ≤ 1048576)
def OpenSpec.upto (s : _root_.Go.ChangeSpec) : _root_.Go.OpenSpec := { _root_.Go.OpenSpec.ofChange s with cond := some uptoSmall }

/-- 'laws.FnImages', WHERE WHAT IT READS IS OF BULK AT MOST 1048576: true; the input reads as it did. -/
def fnImagesUptoRow : OpenClaim := { program := "ytckaknaeddiphaa", sum := "174d6ea53c23fbe4b46dc8c9271d29e328f1a6b5f09a24cfb730cd97c02a5326", func := "loop.example/g00833/laws.FnImages", spec := "fnImages", unfollowed := true, recurses := true, apart := false, narrowed := true }
def FnImagesUptoSaid : Prop := fnImagesUptoRow.holds Try.pinned (OpenSpec.upto fnImagesSpec)

/-- 'laws.FnImagesRead', WHERE WHAT IT READS IS OF BULK AT MOST 1048576: true; the input reads as it did. -/
def fnImagesReadUptoRow : OpenClaim := { program := "ytckaknaeddiphaa", sum := "174d6ea53c23fbe4b46dc8c9271d29e328f1a6b5f09a24cfb730cd97c02a5326", func := "loop.example/g00833/laws.FnImagesRead", spec := "fnImagesRead", unfollowed := true, recurses := true, apart := false, narrowed := true }
def FnImagesReadUptoSaid : Prop := fnImagesReadUptoRow.holds Try.pinned (OpenSpec.upto fnImagesReadSpec)

/-- 'laws.FnDamagedBlocks', WHERE WHAT IT READS IS OF BULK AT MOST 1048576: true; the input reads as it did. -/
def fnDamagedBlocksUptoRow : OpenClaim := { program := "ytckaknaeddiphaa", sum := "174d6ea53c23fbe4b46dc8c9271d29e328f1a6b5f09a24cfb730cd97c02a5326", func := "loop.example/g00833/laws.FnDamagedBlocks", spec := "fnDamagedBlocks", unfollowed := true, recurses := true, apart := false, narrowed := true }
def FnDamagedBlocksUptoSaid : Prop := fnDamagedBlocksUptoRow.holds Try.pinned (OpenSpec.upto fnDamagedBlocksSpec)

/-- 'laws.FnExactImageOf', WHERE WHAT IT READS IS OF BULK AT MOST 1048576: true; the input reads as it did. -/
def fnExactImageOfUptoRow : OpenClaim := { program := "ytckaknaeddiphaa", sum := "174d6ea53c23fbe4b46dc8c9271d29e328f1a6b5f09a24cfb730cd97c02a5326", func := "loop.example/g00833/laws.FnExactImageOf", spec := "fnExactImageOf", unfollowed := true, recurses := true, apart := false, narrowed := true }
def FnExactImageOfUptoSaid : Prop := fnExactImageOfUptoRow.holds Try.pinned (OpenSpec.upto fnExactImageOfSpec)

/-- 'laws.FnExactDataOfImage', WHERE WHAT IT READS IS OF BULK AT MOST 1048576: true; the input reads as it did. -/
def fnExactDataOfImageUptoRow : OpenClaim := { program := "ytckaknaeddiphaa", sum := "174d6ea53c23fbe4b46dc8c9271d29e328f1a6b5f09a24cfb730cd97c02a5326", func := "loop.example/g00833/laws.FnExactDataOfImage", spec := "fnExactDataOfImage", unfollowed := true, recurses := true, apart := false, narrowed := true }
def FnExactDataOfImageUptoSaid : Prop := fnExactDataOfImageUptoRow.holds Try.pinned (OpenSpec.upto fnExactDataOfImageSpec)

/-- 'laws.FnExactDamagedBlocks', WHERE WHAT IT READS IS OF BULK AT MOST 1048576: true; the input reads as it did. -/
def fnExactDamagedBlocksUptoRow : OpenClaim := { program := "ytckaknaeddiphaa", sum := "174d6ea53c23fbe4b46dc8c9271d29e328f1a6b5f09a24cfb730cd97c02a5326", func := "loop.example/g00833/laws.FnExactDamagedBlocks", spec := "fnExactDamagedBlocks", unfollowed := true, recurses := true, apart := false, narrowed := true }
def FnExactDamagedBlocksUptoSaid : Prop := fnExactDamagedBlocksUptoRow.holds Try.pinned (OpenSpec.upto fnExactDamagedBlocksSpec)

end Rows
end Go.Proofs.Ytckaknaeddiphaa
