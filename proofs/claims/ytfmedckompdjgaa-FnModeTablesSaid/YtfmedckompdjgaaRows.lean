/-
  No cell of these rows narrows 'for every input' (looked for: loops, veiled, ifaces, maps, wideKeys, modest, calm, conditions, laid).
  DERIVED. THE GIVEN ROWS OF THIS SEAT. 11 by the template 'for every input the law returns true; each argument reads behind the call as it read before'; 0 by the template 'total and deterministic' (their statements: YtfmedckompdjgaaTotals.lean).
  GIVEN WITH THE SEED: the statements are not yours to turn. If you find one false, say at which input.
  Laid BY PROGRAM, IN A SANDBOX (cutbox-rows.mjs): the forced cells as the released guide's own fill.sh prints them over the translation 0601bc74918c6ef3… (all of the seat's roots in one cut). By AI agents, Wed Nov 11 2026. No macro, syntax, notation, axiom, sorry.
-/
import Derived.Test.YtfmedckompdjgaaChecked
import GoSem.Claim
import GoSem.ClaimJoined
import GoSem.ClaimMapViews
import Derived.JoinedTies
import Derived.KernelRfl
namespace Go.Proofs.Ytfmedckompdjgaa
/- THE CELL 'sum', in the pinned program and in every row, IS THE sha256 OF THE DUMP (.gsa) THAT YtfmedckompdjgaaProg.lean LOADS. Nothing in Lean hashes anything: it is a label: what it is worth is what the hold of that sum in a sandbox is worth. -/
noncomputable def Try.pinned : Pinned := { name := "ytfmedckompdjgaa", sum := "0601bc74918c6ef3bf55cadaf12418cceb2415bc084d4c752326f8cf3a633328", checked := Try.checked }
namespace Rows
def none {H : Type} : Left H := { results := [], args := [] }

/-- 'laws.FnNodeTables': WHATEVER THE INPUT: true; the input reads as it did. -/
def fnNodeTablesSpec : ChangeSpec := { name := "fnNodeTables", fn := fun _ => fun
  | [d] => { results := [.lit (.bool true)], args := [d] }
  | _ => none }
def fnNodeTablesRow : OpenClaim := { program := "ytfmedckompdjgaa", sum := "0601bc74918c6ef3bf55cadaf12418cceb2415bc084d4c752326f8cf3a633328", func := "loop.example/g00833/laws.FnNodeTables", spec := "fnNodeTables", unfollowed := true, recurses := true, apart := false }
def FnNodeTablesSaid : Prop := fnNodeTablesRow.holds Try.pinned (OpenSpec.ofChange fnNodeTablesSpec)

/-- ITS FALSE NEIGHBOUR: 'it returns false'. Refute it at one input. -/
def fnNodeTablesWrong : ChangeSpec := { name := "fnNodeTables", fn := fun _ => fun
  | [d] => { results := [.lit (.bool false)], args := [d] }
  | _ => none }
def FnNodeTablesWrongFalsely : Prop := fnNodeTablesRow.holds Try.pinned (OpenSpec.ofChange fnNodeTablesWrong)

/-- 'laws.FnModeTables': WHATEVER THE INPUT: true; the input reads as it did. -/
def fnModeTablesSpec : ChangeSpec := { name := "fnModeTables", fn := fun _ => fun
  | [d] => { results := [.lit (.bool true)], args := [d] }
  | _ => none }
def fnModeTablesRow : OpenClaim := { program := "ytfmedckompdjgaa", sum := "0601bc74918c6ef3bf55cadaf12418cceb2415bc084d4c752326f8cf3a633328", func := "loop.example/g00833/laws.FnModeTables", spec := "fnModeTables", unfollowed := true, recurses := true, apart := false }
def FnModeTablesSaid : Prop := fnModeTablesRow.holds Try.pinned (OpenSpec.ofChange fnModeTablesSpec)

/-- ITS FALSE NEIGHBOUR: 'it returns false'. Refute it at one input. -/
def fnModeTablesWrong : ChangeSpec := { name := "fnModeTables", fn := fun _ => fun
  | [d] => { results := [.lit (.bool false)], args := [d] }
  | _ => none }
def FnModeTablesWrongFalsely : Prop := fnModeTablesRow.holds Try.pinned (OpenSpec.ofChange fnModeTablesWrong)

/-- 'laws.FnModePaths': WHATEVER THE INPUT: true; the input reads as it did. -/
def fnModePathsSpec : ChangeSpec := { name := "fnModePaths", fn := fun _ => fun
  | [d] => { results := [.lit (.bool true)], args := [d] }
  | _ => none }
def fnModePathsRow : OpenClaim := { program := "ytfmedckompdjgaa", sum := "0601bc74918c6ef3bf55cadaf12418cceb2415bc084d4c752326f8cf3a633328", func := "loop.example/g00833/laws.FnModePaths", spec := "fnModePaths", unfollowed := true, recurses := true, apart := false }
def FnModePathsSaid : Prop := fnModePathsRow.holds Try.pinned (OpenSpec.ofChange fnModePathsSpec)

/-- ITS FALSE NEIGHBOUR: 'it returns false'. Refute it at one input. -/
def fnModePathsWrong : ChangeSpec := { name := "fnModePaths", fn := fun _ => fun
  | [d] => { results := [.lit (.bool false)], args := [d] }
  | _ => none }
def FnModePathsWrongFalsely : Prop := fnModePathsRow.holds Try.pinned (OpenSpec.ofChange fnModePathsWrong)

/-- 'laws.FnExactReadNodeTable': WHATEVER THE INPUT: true; the input reads as it did. -/
def fnExactReadNodeTableSpec : ChangeSpec := { name := "fnExactReadNodeTable", fn := fun _ => fun
  | [d] => { results := [.lit (.bool true)], args := [d] }
  | _ => none }
def fnExactReadNodeTableRow : OpenClaim := { program := "ytfmedckompdjgaa", sum := "0601bc74918c6ef3bf55cadaf12418cceb2415bc084d4c752326f8cf3a633328", func := "loop.example/g00833/laws.FnExactReadNodeTable", spec := "fnExactReadNodeTable", unfollowed := true, recurses := true, apart := false }
def FnExactReadNodeTableSaid : Prop := fnExactReadNodeTableRow.holds Try.pinned (OpenSpec.ofChange fnExactReadNodeTableSpec)

/-- ITS FALSE NEIGHBOUR: 'it returns false'. Refute it at one input. -/
def fnExactReadNodeTableWrong : ChangeSpec := { name := "fnExactReadNodeTable", fn := fun _ => fun
  | [d] => { results := [.lit (.bool false)], args := [d] }
  | _ => none }
def FnExactReadNodeTableWrongFalsely : Prop := fnExactReadNodeTableRow.holds Try.pinned (OpenSpec.ofChange fnExactReadNodeTableWrong)

/-- 'laws.FnExactIsModeTable': WHATEVER THE INPUT: true; the input reads as it did. -/
def fnExactIsModeTableSpec : ChangeSpec := { name := "fnExactIsModeTable", fn := fun _ => fun
  | [d] => { results := [.lit (.bool true)], args := [d] }
  | _ => none }
def fnExactIsModeTableRow : OpenClaim := { program := "ytfmedckompdjgaa", sum := "0601bc74918c6ef3bf55cadaf12418cceb2415bc084d4c752326f8cf3a633328", func := "loop.example/g00833/laws.FnExactIsModeTable", spec := "fnExactIsModeTable", apart := false }
def FnExactIsModeTableSaid : Prop := fnExactIsModeTableRow.holds Try.pinned (OpenSpec.ofChange fnExactIsModeTableSpec)

/-- ITS FALSE NEIGHBOUR: 'it returns false'. Refute it at one input. -/
def fnExactIsModeTableWrong : ChangeSpec := { name := "fnExactIsModeTable", fn := fun _ => fun
  | [d] => { results := [.lit (.bool false)], args := [d] }
  | _ => none }
def FnExactIsModeTableWrongFalsely : Prop := fnExactIsModeTableRow.holds Try.pinned (OpenSpec.ofChange fnExactIsModeTableWrong)

/-- 'laws.FnExactModeTableBytes': WHATEVER THE INPUT: true; the input reads as it did. -/
def fnExactModeTableBytesSpec : ChangeSpec := { name := "fnExactModeTableBytes", fn := fun _ => fun
  | [d] => { results := [.lit (.bool true)], args := [d] }
  | _ => none }
def fnExactModeTableBytesRow : OpenClaim := { program := "ytfmedckompdjgaa", sum := "0601bc74918c6ef3bf55cadaf12418cceb2415bc084d4c752326f8cf3a633328", func := "loop.example/g00833/laws.FnExactModeTableBytes", spec := "fnExactModeTableBytes", apart := false }
def FnExactModeTableBytesSaid : Prop := fnExactModeTableBytesRow.holds Try.pinned (OpenSpec.ofChange fnExactModeTableBytesSpec)

/-- ITS FALSE NEIGHBOUR: 'it returns false'. Refute it at one input. -/
def fnExactModeTableBytesWrong : ChangeSpec := { name := "fnExactModeTableBytes", fn := fun _ => fun
  | [d] => { results := [.lit (.bool false)], args := [d] }
  | _ => none }
def FnExactModeTableBytesWrongFalsely : Prop := fnExactModeTableBytesRow.holds Try.pinned (OpenSpec.ofChange fnExactModeTableBytesWrong)

/-- 'laws.FnExactReadModeTable': WHATEVER THE INPUT: true; the input reads as it did. -/
def fnExactReadModeTableSpec : ChangeSpec := { name := "fnExactReadModeTable", fn := fun _ => fun
  | [d] => { results := [.lit (.bool true)], args := [d] }
  | _ => none }
def fnExactReadModeTableRow : OpenClaim := { program := "ytfmedckompdjgaa", sum := "0601bc74918c6ef3bf55cadaf12418cceb2415bc084d4c752326f8cf3a633328", func := "loop.example/g00833/laws.FnExactReadModeTable", spec := "fnExactReadModeTable", unfollowed := true, recurses := true, apart := false }
def FnExactReadModeTableSaid : Prop := fnExactReadModeTableRow.holds Try.pinned (OpenSpec.ofChange fnExactReadModeTableSpec)

/-- ITS FALSE NEIGHBOUR: 'it returns false'. Refute it at one input. -/
def fnExactReadModeTableWrong : ChangeSpec := { name := "fnExactReadModeTable", fn := fun _ => fun
  | [d] => { results := [.lit (.bool false)], args := [d] }
  | _ => none }
def FnExactReadModeTableWrongFalsely : Prop := fnExactReadModeTableRow.holds Try.pinned (OpenSpec.ofChange fnExactReadModeTableWrong)

/-- 'laws.FnExactMayChange': WHATEVER THE INPUT: true; the input reads as it did. -/
def fnExactMayChangeSpec : ChangeSpec := { name := "fnExactMayChange", fn := fun _ => fun
  | [d1, d2, d3] => { results := [.lit (.bool true)], args := [d1, d2, d3] }
  | _ => none }
def fnExactMayChangeRow : OpenClaim := { program := "ytfmedckompdjgaa", sum := "0601bc74918c6ef3bf55cadaf12418cceb2415bc084d4c752326f8cf3a633328", func := "loop.example/g00833/laws.FnExactMayChange", spec := "fnExactMayChange", apart := false }
def FnExactMayChangeSaid : Prop := fnExactMayChangeRow.holds Try.pinned (OpenSpec.ofChange fnExactMayChangeSpec)

/-- ITS FALSE NEIGHBOUR: 'it returns false'. Refute it at one input. -/
def fnExactMayChangeWrong : ChangeSpec := { name := "fnExactMayChange", fn := fun _ => fun
  | [d1, d2, d3] => { results := [.lit (.bool false)], args := [d1, d2, d3] }
  | _ => none }
def FnExactMayChangeWrongFalsely : Prop := fnExactMayChangeRow.holds Try.pinned (OpenSpec.ofChange fnExactMayChangeWrong)

/-- 'laws.FnExactReachableModes': WHATEVER THE INPUT: true; the input reads as it did. -/
def fnExactReachableModesSpec : ChangeSpec := { name := "fnExactReachableModes", fn := fun _ => fun
  | [d1, d2] => { results := [.lit (.bool true)], args := [d1, d2] }
  | _ => none }
def fnExactReachableModesRow : OpenClaim := { program := "ytfmedckompdjgaa", sum := "0601bc74918c6ef3bf55cadaf12418cceb2415bc084d4c752326f8cf3a633328", func := "loop.example/g00833/laws.FnExactReachableModes", spec := "fnExactReachableModes", unfollowed := true, recurses := true, apart := false }
def FnExactReachableModesSaid : Prop := fnExactReachableModesRow.holds Try.pinned (OpenSpec.ofChange fnExactReachableModesSpec)

/-- ITS FALSE NEIGHBOUR: 'it returns false'. Refute it at one input. -/
def fnExactReachableModesWrong : ChangeSpec := { name := "fnExactReachableModes", fn := fun _ => fun
  | [d1, d2] => { results := [.lit (.bool false)], args := [d1, d2] }
  | _ => none }
def FnExactReachableModesWrongFalsely : Prop := fnExactReachableModesRow.holds Try.pinned (OpenSpec.ofChange fnExactReachableModesWrong)

/-- 'laws.FnExactModePath': WHATEVER THE INPUT: true; the input reads as it did. -/
def fnExactModePathSpec : ChangeSpec := { name := "fnExactModePath", fn := fun _ => fun
  | [d1, d2, d3] => { results := [.lit (.bool true)], args := [d1, d2, d3] }
  | _ => none }
def fnExactModePathRow : OpenClaim := { program := "ytfmedckompdjgaa", sum := "0601bc74918c6ef3bf55cadaf12418cceb2415bc084d4c752326f8cf3a633328", func := "loop.example/g00833/laws.FnExactModePath", spec := "fnExactModePath", unfollowed := true, recurses := true, apart := false }
def FnExactModePathSaid : Prop := fnExactModePathRow.holds Try.pinned (OpenSpec.ofChange fnExactModePathSpec)

/-- ITS FALSE NEIGHBOUR: 'it returns false'. Refute it at one input. -/
def fnExactModePathWrong : ChangeSpec := { name := "fnExactModePath", fn := fun _ => fun
  | [d1, d2, d3] => { results := [.lit (.bool false)], args := [d1, d2, d3] }
  | _ => none }
def FnExactModePathWrongFalsely : Prop := fnExactModePathRow.holds Try.pinned (OpenSpec.ofChange fnExactModePathWrong)

/-- 'laws.FnExactCycleSlots': WHATEVER THE INPUT: true; the input reads as it did. -/
def fnExactCycleSlotsSpec : ChangeSpec := { name := "fnExactCycleSlots", fn := fun _ => fun
  | [d1, d2] => { results := [.lit (.bool true)], args := [d1, d2] }
  | _ => none }
def fnExactCycleSlotsRow : OpenClaim := { program := "ytfmedckompdjgaa", sum := "0601bc74918c6ef3bf55cadaf12418cceb2415bc084d4c752326f8cf3a633328", func := "loop.example/g00833/laws.FnExactCycleSlots", spec := "fnExactCycleSlots", apart := false }
def FnExactCycleSlotsSaid : Prop := fnExactCycleSlotsRow.holds Try.pinned (OpenSpec.ofChange fnExactCycleSlotsSpec)

/-- ITS FALSE NEIGHBOUR: 'it returns false'. Refute it at one input. -/
def fnExactCycleSlotsWrong : ChangeSpec := { name := "fnExactCycleSlots", fn := fun _ => fun
  | [d1, d2] => { results := [.lit (.bool false)], args := [d1, d2] }
  | _ => none }
def FnExactCycleSlotsWrongFalsely : Prop := fnExactCycleSlotsRow.holds Try.pinned (OpenSpec.ofChange fnExactCycleSlotsWrong)

/- THE SECOND FORM. 'bulk': how many values and letters a reading holds, each counted each time it is reached (what is shared counts as often as it is met; a slice's spare places count too). A statement '..UptoSaid' is the law's where the arguments, and the package variables that the reading takes, are together of bulk at most 1048576: NARROWER than '..Said'. Prove '..Said' where nothing that the law and all that it calls make is longer than what came in: it says more and counts as full. Else prove '..UptoSaid'. A law counts once. -/
mutual
def uptoBulk {H : Type} : DataW H → Nat
  | .lit (.string bytes) => bytes.length + 1
  | .lit _ => 1
  | .nil => 1
  | .ptr d => uptoBulk d + 1
  | .slice elems spare => uptoBulkAll elems + uptoBulkAll spare + 1
  | .agg parts => uptoBulkAll parts + 1
  | .iface _ d => uptoBulk d + 1
  | .map entries => uptoBulkEntries entries + 1
  | .held _ => 1
def uptoBulkAll {H : Type} : List (DataW H) → Nat
  | [] => 0
  | d :: r => uptoBulk d + uptoBulkAll r
def uptoBulkEntries {H : Type} : List (Lit × DataW H) → Nat
  | [] => 0
  | x :: r => uptoBulkEntry x + uptoBulkEntries r
def uptoBulkEntry {H : Type} : Lit × DataW H → Nat
  | (.string bytes, d) => bytes.length + uptoBulk d + 1
  | (_, d) => uptoBulk d + 1
 end
def uptoSmall : (H : Type) → List (DataW H) → Bool := fun _ ds => decide (uptoBulkAll ds ≤ 1048576)
def OpenSpec.upto (s : _root_.Go.ChangeSpec) : _root_.Go.OpenSpec := { _root_.Go.OpenSpec.ofChange s with cond := some uptoSmall }

/-- 'laws.FnNodeTables', WHERE WHAT IT READS IS OF BULK AT MOST 1048576: true; the input reads as it did. -/
def fnNodeTablesUptoRow : OpenClaim := { program := "ytfmedckompdjgaa", sum := "0601bc74918c6ef3bf55cadaf12418cceb2415bc084d4c752326f8cf3a633328", func := "loop.example/g00833/laws.FnNodeTables", spec := "fnNodeTables", unfollowed := true, recurses := true, apart := false, narrowed := true }
def FnNodeTablesUptoSaid : Prop := fnNodeTablesUptoRow.holds Try.pinned (OpenSpec.upto fnNodeTablesSpec)

/-- 'laws.FnModeTables', WHERE WHAT IT READS IS OF BULK AT MOST 1048576: true; the input reads as it did. -/
def fnModeTablesUptoRow : OpenClaim := { program := "ytfmedckompdjgaa", sum := "0601bc74918c6ef3bf55cadaf12418cceb2415bc084d4c752326f8cf3a633328", func := "loop.example/g00833/laws.FnModeTables", spec := "fnModeTables", unfollowed := true, recurses := true, apart := false, narrowed := true }
def FnModeTablesUptoSaid : Prop := fnModeTablesUptoRow.holds Try.pinned (OpenSpec.upto fnModeTablesSpec)

/-- 'laws.FnModePaths', WHERE WHAT IT READS IS OF BULK AT MOST 1048576: true; the input reads as it did. -/
def fnModePathsUptoRow : OpenClaim := { program := "ytfmedckompdjgaa", sum := "0601bc74918c6ef3bf55cadaf12418cceb2415bc084d4c752326f8cf3a633328", func := "loop.example/g00833/laws.FnModePaths", spec := "fnModePaths", unfollowed := true, recurses := true, apart := false, narrowed := true }
def FnModePathsUptoSaid : Prop := fnModePathsUptoRow.holds Try.pinned (OpenSpec.upto fnModePathsSpec)

/-- 'laws.FnExactReadNodeTable', WHERE WHAT IT READS IS OF BULK AT MOST 1048576: true; the input reads as it did. -/
def fnExactReadNodeTableUptoRow : OpenClaim := { program := "ytfmedckompdjgaa", sum := "0601bc74918c6ef3bf55cadaf12418cceb2415bc084d4c752326f8cf3a633328", func := "loop.example/g00833/laws.FnExactReadNodeTable", spec := "fnExactReadNodeTable", unfollowed := true, recurses := true, apart := false, narrowed := true }
def FnExactReadNodeTableUptoSaid : Prop := fnExactReadNodeTableUptoRow.holds Try.pinned (OpenSpec.upto fnExactReadNodeTableSpec)

/-- 'laws.FnExactIsModeTable', WHERE WHAT IT READS IS OF BULK AT MOST 1048576: true; the input reads as it did. -/
def fnExactIsModeTableUptoRow : OpenClaim := { program := "ytfmedckompdjgaa", sum := "0601bc74918c6ef3bf55cadaf12418cceb2415bc084d4c752326f8cf3a633328", func := "loop.example/g00833/laws.FnExactIsModeTable", spec := "fnExactIsModeTable", apart := false, narrowed := true }
def FnExactIsModeTableUptoSaid : Prop := fnExactIsModeTableUptoRow.holds Try.pinned (OpenSpec.upto fnExactIsModeTableSpec)

/-- 'laws.FnExactModeTableBytes', WHERE WHAT IT READS IS OF BULK AT MOST 1048576: true; the input reads as it did. -/
def fnExactModeTableBytesUptoRow : OpenClaim := { program := "ytfmedckompdjgaa", sum := "0601bc74918c6ef3bf55cadaf12418cceb2415bc084d4c752326f8cf3a633328", func := "loop.example/g00833/laws.FnExactModeTableBytes", spec := "fnExactModeTableBytes", apart := false, narrowed := true }
def FnExactModeTableBytesUptoSaid : Prop := fnExactModeTableBytesUptoRow.holds Try.pinned (OpenSpec.upto fnExactModeTableBytesSpec)

/-- 'laws.FnExactReadModeTable', WHERE WHAT IT READS IS OF BULK AT MOST 1048576: true; the input reads as it did. -/
def fnExactReadModeTableUptoRow : OpenClaim := { program := "ytfmedckompdjgaa", sum := "0601bc74918c6ef3bf55cadaf12418cceb2415bc084d4c752326f8cf3a633328", func := "loop.example/g00833/laws.FnExactReadModeTable", spec := "fnExactReadModeTable", unfollowed := true, recurses := true, apart := false, narrowed := true }
def FnExactReadModeTableUptoSaid : Prop := fnExactReadModeTableUptoRow.holds Try.pinned (OpenSpec.upto fnExactReadModeTableSpec)

/-- 'laws.FnExactMayChange', WHERE WHAT IT READS IS OF BULK AT MOST 1048576: true; the input reads as it did. -/
def fnExactMayChangeUptoRow : OpenClaim := { program := "ytfmedckompdjgaa", sum := "0601bc74918c6ef3bf55cadaf12418cceb2415bc084d4c752326f8cf3a633328", func := "loop.example/g00833/laws.FnExactMayChange", spec := "fnExactMayChange", apart := false, narrowed := true }
def FnExactMayChangeUptoSaid : Prop := fnExactMayChangeUptoRow.holds Try.pinned (OpenSpec.upto fnExactMayChangeSpec)

/-- 'laws.FnExactReachableModes', WHERE WHAT IT READS IS OF BULK AT MOST 1048576: true; the input reads as it did. -/
def fnExactReachableModesUptoRow : OpenClaim := { program := "ytfmedckompdjgaa", sum := "0601bc74918c6ef3bf55cadaf12418cceb2415bc084d4c752326f8cf3a633328", func := "loop.example/g00833/laws.FnExactReachableModes", spec := "fnExactReachableModes", unfollowed := true, recurses := true, apart := false, narrowed := true }
def FnExactReachableModesUptoSaid : Prop := fnExactReachableModesUptoRow.holds Try.pinned (OpenSpec.upto fnExactReachableModesSpec)

/-- 'laws.FnExactModePath', WHERE WHAT IT READS IS OF BULK AT MOST 1048576: true; the input reads as it did. -/
def fnExactModePathUptoRow : OpenClaim := { program := "ytfmedckompdjgaa", sum := "0601bc74918c6ef3bf55cadaf12418cceb2415bc084d4c752326f8cf3a633328", func := "loop.example/g00833/laws.FnExactModePath", spec := "fnExactModePath", unfollowed := true, recurses := true, apart := false, narrowed := true }
def FnExactModePathUptoSaid : Prop := fnExactModePathUptoRow.holds Try.pinned (OpenSpec.upto fnExactModePathSpec)

/-- 'laws.FnExactCycleSlots', WHERE WHAT IT READS IS OF BULK AT MOST 1048576: true; the input reads as it did. -/
def fnExactCycleSlotsUptoRow : OpenClaim := { program := "ytfmedckompdjgaa", sum := "0601bc74918c6ef3bf55cadaf12418cceb2415bc084d4c752326f8cf3a633328", func := "loop.example/g00833/laws.FnExactCycleSlots", spec := "fnExactCycleSlots", apart := false, narrowed := true }
def FnExactCycleSlotsUptoSaid : Prop := fnExactCycleSlotsUptoRow.holds Try.pinned (OpenSpec.upto fnExactCycleSlotsSpec)

end Rows
end Go.Proofs.Ytfmedckompdjgaa
