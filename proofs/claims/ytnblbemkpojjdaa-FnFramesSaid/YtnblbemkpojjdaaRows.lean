/-
  No cell of these rows narrows 'for every input' (looked for: loops, veiled, ifaces, maps, wideKeys, modest, calm, conditions, laid).
  DERIVED. THE GIVEN ROWS OF THIS SEAT. 9 by the template 'for every input the law returns true; each argument reads behind the call as it read before'; 0 by the template 'total and deterministic' (their statements: YtnblbemkpojjdaaTotals.lean).
  GIVEN WITH THE SEED: the statements are not yours to turn. If you find one false, say at which input.
  Laid BY PROGRAM, IN A SANDBOX (cutbox-rows.mjs): the forced cells as the released guide's own fill.sh prints them over the translation 68e208a7aa27d0b4… (all of the seat's roots in one cut). By AI agents, Wed Nov 11 2026. No macro, syntax, notation, axiom, sorry.
-/
import Derived.Test.YtnblbemkpojjdaaChecked
import GoSem.Claim
import GoSem.ClaimJoined
import GoSem.ClaimMapViews
import Derived.JoinedTies
import Derived.KernelRfl
namespace Go.Proofs.Ytnblbemkpojjdaa
/- THE CELL 'sum', in the pinned program and in every row, IS THE sha256 OF THE DUMP (.gsa) THAT YtnblbemkpojjdaaProg.lean LOADS. Nothing in Lean hashes anything: it is a label: what it is worth is what the hold of that sum in a sandbox is worth. -/
noncomputable def Try.pinned : Pinned := { name := "ytnblbemkpojjdaa", sum := "68e208a7aa27d0b432e0532f0c077923befb87314abf032df3210c5d201fb1e2", checked := Try.checked }
namespace Rows
def none {H : Type} : Left H := { results := [], args := [] }

/-- 'laws.FnFrames': WHATEVER THE INPUT: true; the input reads as it did. -/
def fnFramesSpec : ChangeSpec := { name := "fnFrames", fn := fun _ => fun
  | [d] => { results := [.lit (.bool true)], args := [d] }
  | _ => none }
def fnFramesRow : OpenClaim := { program := "ytnblbemkpojjdaa", sum := "68e208a7aa27d0b432e0532f0c077923befb87314abf032df3210c5d201fb1e2", func := "loop.example/g00833/laws.FnFrames", spec := "fnFrames", unfollowed := true, recurses := true, apart := false }
def FnFramesSaid : Prop := fnFramesRow.holds Try.pinned (OpenSpec.ofChange fnFramesSpec)

/-- ITS FALSE NEIGHBOUR: 'it returns false'. Refute it at one input. -/
def fnFramesWrong : ChangeSpec := { name := "fnFrames", fn := fun _ => fun
  | [d] => { results := [.lit (.bool false)], args := [d] }
  | _ => none }
def FnFramesWrongFalsely : Prop := fnFramesRow.holds Try.pinned (OpenSpec.ofChange fnFramesWrong)

/-- 'laws.FnBodies': WHATEVER THE INPUT: true; the input reads as it did. -/
def fnBodiesSpec : ChangeSpec := { name := "fnBodies", fn := fun _ => fun
  | [d] => { results := [.lit (.bool true)], args := [d] }
  | _ => none }
def fnBodiesRow : OpenClaim := { program := "ytnblbemkpojjdaa", sum := "68e208a7aa27d0b432e0532f0c077923befb87314abf032df3210c5d201fb1e2", func := "loop.example/g00833/laws.FnBodies", spec := "fnBodies", unfollowed := true, recurses := true, apart := false }
def FnBodiesSaid : Prop := fnBodiesRow.holds Try.pinned (OpenSpec.ofChange fnBodiesSpec)

/-- ITS FALSE NEIGHBOUR: 'it returns false'. Refute it at one input. -/
def fnBodiesWrong : ChangeSpec := { name := "fnBodies", fn := fun _ => fun
  | [d] => { results := [.lit (.bool false)], args := [d] }
  | _ => none }
def FnBodiesWrongFalsely : Prop := fnBodiesRow.holds Try.pinned (OpenSpec.ofChange fnBodiesWrong)

/-- 'laws.FnExactIsFrame': WHATEVER THE INPUT: true; the input reads as it did. -/
def fnExactIsFrameSpec : ChangeSpec := { name := "fnExactIsFrame", fn := fun _ => fun
  | [d] => { results := [.lit (.bool true)], args := [d] }
  | _ => none }
def fnExactIsFrameRow : OpenClaim := { program := "ytnblbemkpojjdaa", sum := "68e208a7aa27d0b432e0532f0c077923befb87314abf032df3210c5d201fb1e2", func := "loop.example/g00833/laws.FnExactIsFrame", spec := "fnExactIsFrame", unfollowed := true, recurses := true, apart := false }
def FnExactIsFrameSaid : Prop := fnExactIsFrameRow.holds Try.pinned (OpenSpec.ofChange fnExactIsFrameSpec)

/-- ITS FALSE NEIGHBOUR: 'it returns false'. Refute it at one input. -/
def fnExactIsFrameWrong : ChangeSpec := { name := "fnExactIsFrame", fn := fun _ => fun
  | [d] => { results := [.lit (.bool false)], args := [d] }
  | _ => none }
def FnExactIsFrameWrongFalsely : Prop := fnExactIsFrameRow.holds Try.pinned (OpenSpec.ofChange fnExactIsFrameWrong)

/-- 'laws.FnExactFrameBody': WHATEVER THE INPUT: true; the input reads as it did. -/
def fnExactFrameBodySpec : ChangeSpec := { name := "fnExactFrameBody", fn := fun _ => fun
  | [d] => { results := [.lit (.bool true)], args := [d] }
  | _ => none }
def fnExactFrameBodyRow : OpenClaim := { program := "ytnblbemkpojjdaa", sum := "68e208a7aa27d0b432e0532f0c077923befb87314abf032df3210c5d201fb1e2", func := "loop.example/g00833/laws.FnExactFrameBody", spec := "fnExactFrameBody", unfollowed := true, recurses := true, apart := false }
def FnExactFrameBodySaid : Prop := fnExactFrameBodyRow.holds Try.pinned (OpenSpec.ofChange fnExactFrameBodySpec)

/-- ITS FALSE NEIGHBOUR: 'it returns false'. Refute it at one input. -/
def fnExactFrameBodyWrong : ChangeSpec := { name := "fnExactFrameBody", fn := fun _ => fun
  | [d] => { results := [.lit (.bool false)], args := [d] }
  | _ => none }
def FnExactFrameBodyWrongFalsely : Prop := fnExactFrameBodyRow.holds Try.pinned (OpenSpec.ofChange fnExactFrameBodyWrong)

/-- 'laws.FnExactFrameFromBody': WHATEVER THE INPUT: true; the input reads as it did. -/
def fnExactFrameFromBodySpec : ChangeSpec := { name := "fnExactFrameFromBody", fn := fun _ => fun
  | [d] => { results := [.lit (.bool true)], args := [d] }
  | _ => none }
def fnExactFrameFromBodyRow : OpenClaim := { program := "ytnblbemkpojjdaa", sum := "68e208a7aa27d0b432e0532f0c077923befb87314abf032df3210c5d201fb1e2", func := "loop.example/g00833/laws.FnExactFrameFromBody", spec := "fnExactFrameFromBody", unfollowed := true, recurses := true, apart := false }
def FnExactFrameFromBodySaid : Prop := fnExactFrameFromBodyRow.holds Try.pinned (OpenSpec.ofChange fnExactFrameFromBodySpec)

/-- ITS FALSE NEIGHBOUR: 'it returns false'. Refute it at one input. -/
def fnExactFrameFromBodyWrong : ChangeSpec := { name := "fnExactFrameFromBody", fn := fun _ => fun
  | [d] => { results := [.lit (.bool false)], args := [d] }
  | _ => none }
def FnExactFrameFromBodyWrongFalsely : Prop := fnExactFrameFromBodyRow.holds Try.pinned (OpenSpec.ofChange fnExactFrameFromBodyWrong)

/-- 'laws.FnExactBodySize': WHATEVER THE INPUT: true; the input reads as it did. -/
def fnExactBodySizeSpec : ChangeSpec := { name := "fnExactBodySize", fn := fun _ => fun
  | [d1, d2] => { results := [.lit (.bool true)], args := [d1, d2] }
  | _ => none }
def fnExactBodySizeRow : OpenClaim := { program := "ytnblbemkpojjdaa", sum := "68e208a7aa27d0b432e0532f0c077923befb87314abf032df3210c5d201fb1e2", func := "loop.example/g00833/laws.FnExactBodySize", spec := "fnExactBodySize", unfollowed := true, recurses := true, apart := false }
def FnExactBodySizeSaid : Prop := fnExactBodySizeRow.holds Try.pinned (OpenSpec.ofChange fnExactBodySizeSpec)

/-- ITS FALSE NEIGHBOUR: 'it returns false'. Refute it at one input. -/
def fnExactBodySizeWrong : ChangeSpec := { name := "fnExactBodySize", fn := fun _ => fun
  | [d1, d2] => { results := [.lit (.bool false)], args := [d1, d2] }
  | _ => none }
def FnExactBodySizeWrongFalsely : Prop := fnExactBodySizeRow.holds Try.pinned (OpenSpec.ofChange fnExactBodySizeWrong)

/-- 'laws.FnExactKindOfHead': WHATEVER THE INPUT: true; the input reads as it did. -/
def fnExactKindOfHeadSpec : ChangeSpec := { name := "fnExactKindOfHead", fn := fun _ => fun
  | [d] => { results := [.lit (.bool true)], args := [d] }
  | _ => none }
def fnExactKindOfHeadRow : OpenClaim := { program := "ytnblbemkpojjdaa", sum := "68e208a7aa27d0b432e0532f0c077923befb87314abf032df3210c5d201fb1e2", func := "loop.example/g00833/laws.FnExactKindOfHead", spec := "fnExactKindOfHead", apart := false }
def FnExactKindOfHeadSaid : Prop := fnExactKindOfHeadRow.holds Try.pinned (OpenSpec.ofChange fnExactKindOfHeadSpec)

/-- ITS FALSE NEIGHBOUR: 'it returns false'. Refute it at one input. -/
def fnExactKindOfHeadWrong : ChangeSpec := { name := "fnExactKindOfHead", fn := fun _ => fun
  | [d] => { results := [.lit (.bool false)], args := [d] }
  | _ => none }
def FnExactKindOfHeadWrongFalsely : Prop := fnExactKindOfHeadRow.holds Try.pinned (OpenSpec.ofChange fnExactKindOfHeadWrong)

/-- 'laws.FnExactKindName': WHATEVER THE INPUT: true; the input reads as it did. -/
def fnExactKindNameSpec : ChangeSpec := { name := "fnExactKindName", fn := fun _ => fun
  | [d] => { results := [.lit (.bool true)], args := [d] }
  | _ => none }
def fnExactKindNameRow : OpenClaim := { program := "ytnblbemkpojjdaa", sum := "68e208a7aa27d0b432e0532f0c077923befb87314abf032df3210c5d201fb1e2", func := "loop.example/g00833/laws.FnExactKindName", spec := "fnExactKindName", unfollowed := true, recurses := true, apart := false }
def FnExactKindNameSaid : Prop := fnExactKindNameRow.holds Try.pinned (OpenSpec.ofChange fnExactKindNameSpec)

/-- ITS FALSE NEIGHBOUR: 'it returns false'. Refute it at one input. -/
def fnExactKindNameWrong : ChangeSpec := { name := "fnExactKindName", fn := fun _ => fun
  | [d] => { results := [.lit (.bool false)], args := [d] }
  | _ => none }
def FnExactKindNameWrongFalsely : Prop := fnExactKindNameRow.holds Try.pinned (OpenSpec.ofChange fnExactKindNameWrong)

/-- 'laws.FnExactHasStateAndData': WHATEVER THE INPUT: true; the input reads as it did. -/
def fnExactHasStateAndDataSpec : ChangeSpec := { name := "fnExactHasStateAndData", fn := fun _ => fun
  | [d] => { results := [.lit (.bool true)], args := [d] }
  | _ => none }
def fnExactHasStateAndDataRow : OpenClaim := { program := "ytnblbemkpojjdaa", sum := "68e208a7aa27d0b432e0532f0c077923befb87314abf032df3210c5d201fb1e2", func := "loop.example/g00833/laws.FnExactHasStateAndData", spec := "fnExactHasStateAndData", apart := false }
def FnExactHasStateAndDataSaid : Prop := fnExactHasStateAndDataRow.holds Try.pinned (OpenSpec.ofChange fnExactHasStateAndDataSpec)

/-- ITS FALSE NEIGHBOUR: 'it returns false'. Refute it at one input. -/
def fnExactHasStateAndDataWrong : ChangeSpec := { name := "fnExactHasStateAndData", fn := fun _ => fun
  | [d] => { results := [.lit (.bool false)], args := [d] }
  | _ => none }
def FnExactHasStateAndDataWrongFalsely : Prop := fnExactHasStateAndDataRow.holds Try.pinned (OpenSpec.ofChange fnExactHasStateAndDataWrong)

/- THE SECOND FORM. 'bulk': how many values and letters a reading holds, each counted each time it is reached (what is shared counts as often as it is met; a slice's spare places count too). A statement '..UptoSaid' is the law's where the arguments, and the package variables that the reading takes, are together of bulk at most 1048576: NARROWER than '..Said'. Prove '..Said' where nothing that the law and all that it calls make is longer than what came in: it says more and counts as full. Else prove '..UptoSaid'. A law counts once. -/
mutual
def uptoBulk {H : Type} : DataW H → Nat
  | .lit (.string bytes) => bytes.length + 1
  | .lit _ => 1
  | .nil => 1
  | .ptr d => uptoBulk d + 1
  | .slice elems spare => uptoBulkAll elems + uptoBulkAll spare + 1
  | .agg parts => uptoBulkAll parts + 1
  | .iface _ d => uptoBulk d + 1
  | .map entries => uptoBulkEntries entries + 1
  | .held _ => 1
def uptoBulkAll {H : Type} : List (DataW H) → Nat
  | [] => 0
  | d :: r => uptoBulk d + uptoBulkAll r
def uptoBulkEntries {H : Type} : List (Lit × DataW H) → Nat
  | [] => 0
  | x :: r => uptoBulkEntry x + uptoBulkEntries r
def uptoBulkEntry {H : Type} : Lit × DataW H → Nat
  | (.string bytes, d) => bytes.length + uptoBulk d + 1
  | (_, d) => uptoBulk d + 1
 end
def uptoSmall : (H : Type) → List (DataW H) → Bool := fun _ ds => decide (uptoBulkAll ds ≤ 1048576)
def OpenSpec.upto (s : _root_.Go.ChangeSpec) : _root_.Go.OpenSpec := { _root_.Go.OpenSpec.ofChange s with cond := some uptoSmall }

/-- 'laws.FnFrames', WHERE WHAT IT READS IS OF BULK AT MOST 1048576: true; the input reads as it did. -/
def fnFramesUptoRow : OpenClaim := { program := "ytnblbemkpojjdaa", sum := "68e208a7aa27d0b432e0532f0c077923befb87314abf032df3210c5d201fb1e2", func := "loop.example/g00833/laws.FnFrames", spec := "fnFrames", unfollowed := true, recurses := true, apart := false, narrowed := true }
def FnFramesUptoSaid : Prop := fnFramesUptoRow.holds Try.pinned (OpenSpec.upto fnFramesSpec)

/-- 'laws.FnBodies', WHERE WHAT IT READS IS OF BULK AT MOST 1048576: true; the input reads as it did. -/
def fnBodiesUptoRow : OpenClaim := { program := "ytnblbemkpojjdaa", sum := "68e208a7aa27d0b432e0532f0c077923befb87314abf032df3210c5d201fb1e2", func := "loop.example/g00833/laws.FnBodies", spec := "fnBodies", unfollowed := true, recurses := true, apart := false, narrowed := true }
def FnBodiesUptoSaid : Prop := fnBodiesUptoRow.holds Try.pinned (OpenSpec.upto fnBodiesSpec)

/-- 'laws.FnExactIsFrame', WHERE WHAT IT READS IS OF BULK AT MOST 1048576: true; the input reads as it did. -/
def fnExactIsFrameUptoRow : OpenClaim := { program := "ytnblbemkpojjdaa", sum := "68e208a7aa27d0b432e0532f0c077923befb87314abf032df3210c5d201fb1e2", func := "loop.example/g00833/laws.FnExactIsFrame", spec := "fnExactIsFrame", unfollowed := true, recurses := true, apart := false, narrowed := true }
def FnExactIsFrameUptoSaid : Prop := fnExactIsFrameUptoRow.holds Try.pinned (OpenSpec.upto fnExactIsFrameSpec)

/-- 'laws.FnExactFrameBody', WHERE WHAT IT READS IS OF BULK AT MOST 1048576: true; the input reads as it did. -/
def fnExactFrameBodyUptoRow : OpenClaim := { program := "ytnblbemkpojjdaa", sum := "68e208a7aa27d0b432e0532f0c077923befb87314abf032df3210c5d201fb1e2", func := "loop.example/g00833/laws.FnExactFrameBody", spec := "fnExactFrameBody", unfollowed := true, recurses := true, apart := false, narrowed := true }
def FnExactFrameBodyUptoSaid : Prop := fnExactFrameBodyUptoRow.holds Try.pinned (OpenSpec.upto fnExactFrameBodySpec)

/-- 'laws.FnExactFrameFromBody', WHERE WHAT IT READS IS OF BULK AT MOST 1048576: true; the input reads as it did. -/
def fnExactFrameFromBodyUptoRow : OpenClaim := { program := "ytnblbemkpojjdaa", sum := "68e208a7aa27d0b432e0532f0c077923befb87314abf032df3210c5d201fb1e2", func := "loop.example/g00833/laws.FnExactFrameFromBody", spec := "fnExactFrameFromBody", unfollowed := true, recurses := true, apart := false, narrowed := true }
def FnExactFrameFromBodyUptoSaid : Prop := fnExactFrameFromBodyUptoRow.holds Try.pinned (OpenSpec.upto fnExactFrameFromBodySpec)

/-- 'laws.FnExactBodySize', WHERE WHAT IT READS IS OF BULK AT MOST 1048576: true; the input reads as it did. -/
def fnExactBodySizeUptoRow : OpenClaim := { program := "ytnblbemkpojjdaa", sum := "68e208a7aa27d0b432e0532f0c077923befb87314abf032df3210c5d201fb1e2", func := "loop.example/g00833/laws.FnExactBodySize", spec := "fnExactBodySize", unfollowed := true, recurses := true, apart := false, narrowed := true }
def FnExactBodySizeUptoSaid : Prop := fnExactBodySizeUptoRow.holds Try.pinned (OpenSpec.upto fnExactBodySizeSpec)

/-- 'laws.FnExactKindOfHead', WHERE WHAT IT READS IS OF BULK AT MOST 1048576: true; the input reads as it did. -/
def fnExactKindOfHeadUptoRow : OpenClaim := { program := "ytnblbemkpojjdaa", sum := "68e208a7aa27d0b432e0532f0c077923befb87314abf032df3210c5d201fb1e2", func := "loop.example/g00833/laws.FnExactKindOfHead", spec := "fnExactKindOfHead", apart := false, narrowed := true }
def FnExactKindOfHeadUptoSaid : Prop := fnExactKindOfHeadUptoRow.holds Try.pinned (OpenSpec.upto fnExactKindOfHeadSpec)

/-- 'laws.FnExactKindName', WHERE WHAT IT READS IS OF BULK AT MOST 1048576: true; the input reads as it did. -/
def fnExactKindNameUptoRow : OpenClaim := { program := "ytnblbemkpojjdaa", sum := "68e208a7aa27d0b432e0532f0c077923befb87314abf032df3210c5d201fb1e2", func := "loop.example/g00833/laws.FnExactKindName", spec := "fnExactKindName", unfollowed := true, recurses := true, apart := false, narrowed := true }
def FnExactKindNameUptoSaid : Prop := fnExactKindNameUptoRow.holds Try.pinned (OpenSpec.upto fnExactKindNameSpec)

/-- 'laws.FnExactHasStateAndData', WHERE WHAT IT READS IS OF BULK AT MOST 1048576: true; the input reads as it did. -/
def fnExactHasStateAndDataUptoRow : OpenClaim := { program := "ytnblbemkpojjdaa", sum := "68e208a7aa27d0b432e0532f0c077923befb87314abf032df3210c5d201fb1e2", func := "loop.example/g00833/laws.FnExactHasStateAndData", spec := "fnExactHasStateAndData", apart := false, narrowed := true }
def FnExactHasStateAndDataUptoSaid : Prop := fnExactHasStateAndDataUptoRow.holds Try.pinned (OpenSpec.upto fnExactHasStateAndDataSpec)

end Rows
end Go.Proofs.Ytnblbemkpojjdaa
