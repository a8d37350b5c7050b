/-
  No cell of these rows narrows 'for every input' (looked for: loops, veiled, ifaces, maps, wideKeys, modest, calm, conditions, laid).
  DERIVED. THE GIVEN ROWS OF THIS SEAT. 10 by the template 'for every input the law returns true; each argument reads behind the call as it read before'; 0 by the template 'total and deterministic' (their statements: YtilkopbfbmibgaaTotals.lean).
  GIVEN WITH THE SEED: the statements are not yours to turn. If you find one false, say at which input.
  Laid BY PROGRAM, IN A SANDBOX (cutbox-rows.mjs): the forced cells as the released guide's own fill.sh prints them over the translation eea881ec80104027… (all of the seat's roots in one cut). By AI agents, Wed Nov 11 2026. No macro, syntax, notation, axiom, sorry.
-/
import Derived.Test.YtilkopbfbmibgaaChecked
import GoSem.Claim
import GoSem.ClaimJoined
import GoSem.ClaimMapViews
import Derived.JoinedTies
import Derived.KernelRfl
namespace Go.Proofs.Ytilkopbfbmibgaa
/- THE CELL 'sum', in the pinned program and in every row, IS THE sha256 OF THE DUMP (.gsa) THAT YtilkopbfbmibgaaProg.lean LOADS. Nothing in Lean hashes anything: it is a label: what it is worth is what the hold of that sum in a sandbox is worth. -/
noncomputable def Try.pinned : Pinned := { name := "ytilkopbfbmibgaa", sum := "eea881ec801040278a8d807f3abf4a50ddb44bc6ed6bcd61357f40fe83d6dcb5", checked := Try.checked }
namespace Rows
def none {H : Type} : Left H := { results := [], args := [] }

/-- 'laws.FnLines': WHATEVER THE INPUT: true; the input reads as it did. -/
def fnLinesSpec : ChangeSpec := { name := "fnLines", fn := fun _ => fun
  | [d] => { results := [.lit (.bool true)], args := [d] }
  | _ => none }
def fnLinesRow : OpenClaim := { program := "ytilkopbfbmibgaa", sum := "eea881ec801040278a8d807f3abf4a50ddb44bc6ed6bcd61357f40fe83d6dcb5", func := "loop.example/g00833/laws.FnLines", spec := "fnLines", leaving := true, apart := false }
def FnLinesSaid : Prop := fnLinesRow.holds Try.pinned (OpenSpec.ofChange fnLinesSpec)

/-- ITS FALSE NEIGHBOUR: 'it returns false'. Refute it at one input. -/
def fnLinesWrong : ChangeSpec := { name := "fnLines", fn := fun _ => fun
  | [d] => { results := [.lit (.bool false)], args := [d] }
  | _ => none }
def FnLinesWrongFalsely : Prop := fnLinesRow.holds Try.pinned (OpenSpec.ofChange fnLinesWrong)

/-- 'laws.FnLinesRead': WHATEVER THE INPUT: true; the input reads as it did. -/
def fnLinesReadSpec : ChangeSpec := { name := "fnLinesRead", fn := fun _ => fun
  | [d] => { results := [.lit (.bool true)], args := [d] }
  | _ => none }
def fnLinesReadRow : OpenClaim := { program := "ytilkopbfbmibgaa", sum := "eea881ec801040278a8d807f3abf4a50ddb44bc6ed6bcd61357f40fe83d6dcb5", func := "loop.example/g00833/laws.FnLinesRead", spec := "fnLinesRead", leaving := true, apart := false }
def FnLinesReadSaid : Prop := fnLinesReadRow.holds Try.pinned (OpenSpec.ofChange fnLinesReadSpec)

/-- ITS FALSE NEIGHBOUR: 'it returns false'. Refute it at one input. -/
def fnLinesReadWrong : ChangeSpec := { name := "fnLinesRead", fn := fun _ => fun
  | [d] => { results := [.lit (.bool false)], args := [d] }
  | _ => none }
def FnLinesReadWrongFalsely : Prop := fnLinesReadRow.holds Try.pinned (OpenSpec.ofChange fnLinesReadWrong)

/-- 'laws.FnPadded': WHATEVER THE INPUT: true; the input reads as it did. -/
def fnPaddedSpec : ChangeSpec := { name := "fnPadded", fn := fun _ => fun
  | [d] => { results := [.lit (.bool true)], args := [d] }
  | _ => none }
def fnPaddedRow : OpenClaim := { program := "ytilkopbfbmibgaa", sum := "eea881ec801040278a8d807f3abf4a50ddb44bc6ed6bcd61357f40fe83d6dcb5", func := "loop.example/g00833/laws.FnPadded", spec := "fnPadded", apart := false }
def FnPaddedSaid : Prop := fnPaddedRow.holds Try.pinned (OpenSpec.ofChange fnPaddedSpec)

/-- ITS FALSE NEIGHBOUR: 'it returns false'. Refute it at one input. -/
def fnPaddedWrong : ChangeSpec := { name := "fnPadded", fn := fun _ => fun
  | [d] => { results := [.lit (.bool false)], args := [d] }
  | _ => none }
def FnPaddedWrongFalsely : Prop := fnPaddedRow.holds Try.pinned (OpenSpec.ofChange fnPaddedWrong)

/-- 'laws.FnExactCellsOf': WHATEVER THE INPUT: true; the input reads as it did. -/
def fnExactCellsOfSpec : ChangeSpec := { name := "fnExactCellsOf", fn := fun _ => fun
  | [d1, d2] => { results := [.lit (.bool true)], args := [d1, d2] }
  | _ => none }
def fnExactCellsOfRow : OpenClaim := { program := "ytilkopbfbmibgaa", sum := "eea881ec801040278a8d807f3abf4a50ddb44bc6ed6bcd61357f40fe83d6dcb5", func := "loop.example/g00833/laws.FnExactCellsOf", spec := "fnExactCellsOf", leaving := true, apart := false }
def FnExactCellsOfSaid : Prop := fnExactCellsOfRow.holds Try.pinned (OpenSpec.ofChange fnExactCellsOfSpec)

/-- ITS FALSE NEIGHBOUR: 'it returns false'. Refute it at one input. -/
def fnExactCellsOfWrong : ChangeSpec := { name := "fnExactCellsOf", fn := fun _ => fun
  | [d1, d2] => { results := [.lit (.bool false)], args := [d1, d2] }
  | _ => none }
def FnExactCellsOfWrongFalsely : Prop := fnExactCellsOfRow.holds Try.pinned (OpenSpec.ofChange fnExactCellsOfWrong)

/-- 'laws.FnExactBytesOfLine': WHATEVER THE INPUT: true; the input reads as it did. -/
def fnExactBytesOfLineSpec : ChangeSpec := { name := "fnExactBytesOfLine", fn := fun _ => fun
  | [d] => { results := [.lit (.bool true)], args := [d] }
  | _ => none }
def fnExactBytesOfLineRow : OpenClaim := { program := "ytilkopbfbmibgaa", sum := "eea881ec801040278a8d807f3abf4a50ddb44bc6ed6bcd61357f40fe83d6dcb5", func := "loop.example/g00833/laws.FnExactBytesOfLine", spec := "fnExactBytesOfLine", apart := false }
def FnExactBytesOfLineSaid : Prop := fnExactBytesOfLineRow.holds Try.pinned (OpenSpec.ofChange fnExactBytesOfLineSpec)

/-- ITS FALSE NEIGHBOUR: 'it returns false'. Refute it at one input. -/
def fnExactBytesOfLineWrong : ChangeSpec := { name := "fnExactBytesOfLine", fn := fun _ => fun
  | [d] => { results := [.lit (.bool false)], args := [d] }
  | _ => none }
def FnExactBytesOfLineWrongFalsely : Prop := fnExactBytesOfLineRow.holds Try.pinned (OpenSpec.ofChange fnExactBytesOfLineWrong)

/-- 'laws.FnExactShapeOfLine': WHATEVER THE INPUT: true; the input reads as it did. -/
def fnExactShapeOfLineSpec : ChangeSpec := { name := "fnExactShapeOfLine", fn := fun _ => fun
  | [d] => { results := [.lit (.bool true)], args := [d] }
  | _ => none }
def fnExactShapeOfLineRow : OpenClaim := { program := "ytilkopbfbmibgaa", sum := "eea881ec801040278a8d807f3abf4a50ddb44bc6ed6bcd61357f40fe83d6dcb5", func := "loop.example/g00833/laws.FnExactShapeOfLine", spec := "fnExactShapeOfLine", apart := false }
def FnExactShapeOfLineSaid : Prop := fnExactShapeOfLineRow.holds Try.pinned (OpenSpec.ofChange fnExactShapeOfLineSpec)

/-- ITS FALSE NEIGHBOUR: 'it returns false'. Refute it at one input. -/
def fnExactShapeOfLineWrong : ChangeSpec := { name := "fnExactShapeOfLine", fn := fun _ => fun
  | [d] => { results := [.lit (.bool false)], args := [d] }
  | _ => none }
def FnExactShapeOfLineWrongFalsely : Prop := fnExactShapeOfLineRow.holds Try.pinned (OpenSpec.ofChange fnExactShapeOfLineWrong)

/-- 'laws.FnExactIsLine': WHATEVER THE INPUT: true; the input reads as it did. -/
def fnExactIsLineSpec : ChangeSpec := { name := "fnExactIsLine", fn := fun _ => fun
  | [d] => { results := [.lit (.bool true)], args := [d] }
  | _ => none }
def fnExactIsLineRow : OpenClaim := { program := "ytilkopbfbmibgaa", sum := "eea881ec801040278a8d807f3abf4a50ddb44bc6ed6bcd61357f40fe83d6dcb5", func := "loop.example/g00833/laws.FnExactIsLine", spec := "fnExactIsLine", apart := false }
def FnExactIsLineSaid : Prop := fnExactIsLineRow.holds Try.pinned (OpenSpec.ofChange fnExactIsLineSpec)

/-- ITS FALSE NEIGHBOUR: 'it returns false'. Refute it at one input. -/
def fnExactIsLineWrong : ChangeSpec := { name := "fnExactIsLine", fn := fun _ => fun
  | [d] => { results := [.lit (.bool false)], args := [d] }
  | _ => none }
def FnExactIsLineWrongFalsely : Prop := fnExactIsLineRow.holds Try.pinned (OpenSpec.ofChange fnExactIsLineWrong)

/-- 'laws.FnExactPadLine': WHATEVER THE INPUT: true; the input reads as it did. -/
def fnExactPadLineSpec : ChangeSpec := { name := "fnExactPadLine", fn := fun _ => fun
  | [d1, d2, d3] => { results := [.lit (.bool true)], args := [d1, d2, d3] }
  | _ => none }
def fnExactPadLineRow : OpenClaim := { program := "ytilkopbfbmibgaa", sum := "eea881ec801040278a8d807f3abf4a50ddb44bc6ed6bcd61357f40fe83d6dcb5", func := "loop.example/g00833/laws.FnExactPadLine", spec := "fnExactPadLine", apart := false }
def FnExactPadLineSaid : Prop := fnExactPadLineRow.holds Try.pinned (OpenSpec.ofChange fnExactPadLineSpec)

/-- ITS FALSE NEIGHBOUR: 'it returns false'. Refute it at one input. -/
def fnExactPadLineWrong : ChangeSpec := { name := "fnExactPadLine", fn := fun _ => fun
  | [d1, d2, d3] => { results := [.lit (.bool false)], args := [d1, d2, d3] }
  | _ => none }
def FnExactPadLineWrongFalsely : Prop := fnExactPadLineRow.holds Try.pinned (OpenSpec.ofChange fnExactPadLineWrong)

/-- 'laws.FnExactDataCells': WHATEVER THE INPUT: true; the input reads as it did. -/
def fnExactDataCellsSpec : ChangeSpec := { name := "fnExactDataCells", fn := fun _ => fun
  | [d] => { results := [.lit (.bool true)], args := [d] }
  | _ => none }
def fnExactDataCellsRow : OpenClaim := { program := "ytilkopbfbmibgaa", sum := "eea881ec801040278a8d807f3abf4a50ddb44bc6ed6bcd61357f40fe83d6dcb5", func := "loop.example/g00833/laws.FnExactDataCells", spec := "fnExactDataCells", apart := false }
def FnExactDataCellsSaid : Prop := fnExactDataCellsRow.holds Try.pinned (OpenSpec.ofChange fnExactDataCellsSpec)

/-- ITS FALSE NEIGHBOUR: 'it returns false'. Refute it at one input. -/
def fnExactDataCellsWrong : ChangeSpec := { name := "fnExactDataCells", fn := fun _ => fun
  | [d] => { results := [.lit (.bool false)], args := [d] }
  | _ => none }
def FnExactDataCellsWrongFalsely : Prop := fnExactDataCellsRow.holds Try.pinned (OpenSpec.ofChange fnExactDataCellsWrong)

/-- 'laws.FnExactTransmissionSize': WHATEVER THE INPUT: true; the input reads as it did. -/
def fnExactTransmissionSizeSpec : ChangeSpec := { name := "fnExactTransmissionSize", fn := fun _ => fun
  | [d1, d2] => { results := [.lit (.bool true)], args := [d1, d2] }
  | _ => none }
def fnExactTransmissionSizeRow : OpenClaim := { program := "ytilkopbfbmibgaa", sum := "eea881ec801040278a8d807f3abf4a50ddb44bc6ed6bcd61357f40fe83d6dcb5", func := "loop.example/g00833/laws.FnExactTransmissionSize", spec := "fnExactTransmissionSize", apart := false }
def FnExactTransmissionSizeSaid : Prop := fnExactTransmissionSizeRow.holds Try.pinned (OpenSpec.ofChange fnExactTransmissionSizeSpec)

/-- ITS FALSE NEIGHBOUR: 'it returns false'. Refute it at one input. -/
def fnExactTransmissionSizeWrong : ChangeSpec := { name := "fnExactTransmissionSize", fn := fun _ => fun
  | [d1, d2] => { results := [.lit (.bool false)], args := [d1, d2] }
  | _ => none }
def FnExactTransmissionSizeWrongFalsely : Prop := fnExactTransmissionSizeRow.holds Try.pinned (OpenSpec.ofChange fnExactTransmissionSizeWrong)

/- THE SECOND FORM. 'bulk': how many values and letters a reading holds, each counted each time it is reached (what is shared counts as often as it is met; a slice's spare places count too). A statement '..UptoSaid' is the law's where the arguments, and the package variables that the reading takes, are together of bulk at most 1048576: NARROWER than '..Said'. Prove '..Said' where nothing that the law and all that it calls make is longer than what came in: it says more and counts as full. Else prove '..UptoSaid'. A law counts once. -/
mutual
def uptoBulk {H : Type} : DataW H → Nat
  | .lit (.string bytes) => bytes.length + 1
  | .lit _ => 1
  | .nil => 1
  | .ptr d => uptoBulk d + 1
  | .slice elems spare => uptoBulkAll elems + uptoBulkAll spare + 1
  | .agg parts => uptoBulkAll parts + 1
  | .iface _ d => uptoBulk d + 1
  | .map entries => uptoBulkEntries entries + 1
  | .held _ => 1
def uptoBulkAll {H : Type} : List (DataW H) → Nat
  | [] => 0
  | d :: r => uptoBulk d + uptoBulkAll r
def uptoBulkEntries {H : Type} : List (Lit × DataW H) → Nat
  | [] => 0
  | x :: r => uptoBulkEntry x + uptoBulkEntries r
def uptoBulkEntry {H : Type} : Lit × DataW H → Nat
  | (.string bytes, d) => bytes.length + uptoBulk d + 1
  | (_, d) => uptoBulk d + 1
 end
def uptoSmall : (H : Type) → List (DataW H) → Bool := fun _ ds => decide (uptoBulkAll ds ≤ 1048576)
def OpenSpec.upto (s : _root_.Go.ChangeSpec) : _root_.Go.OpenSpec := { _root_.Go.OpenSpec.ofChange s with cond := some uptoSmall }

/-- 'laws.FnLines', WHERE WHAT IT READS IS OF BULK AT MOST 1048576: true; the input reads as it did. -/
def fnLinesUptoRow : OpenClaim := { program := "ytilkopbfbmibgaa", sum := "eea881ec801040278a8d807f3abf4a50ddb44bc6ed6bcd61357f40fe83d6dcb5", func := "loop.example/g00833/laws.FnLines", spec := "fnLines", leaving := true, apart := false, narrowed := true }
def FnLinesUptoSaid : Prop := fnLinesUptoRow.holds Try.pinned (OpenSpec.upto fnLinesSpec)

/-- 'laws.FnLinesRead', WHERE WHAT IT READS IS OF BULK AT MOST 1048576: true; the input reads as it did. -/
def fnLinesReadUptoRow : OpenClaim := { program := "ytilkopbfbmibgaa", sum := "eea881ec801040278a8d807f3abf4a50ddb44bc6ed6bcd61357f40fe83d6dcb5", func := "loop.example/g00833/laws.FnLinesRead", spec := "fnLinesRead", leaving := true, apart := false, narrowed := true }
def FnLinesReadUptoSaid : Prop := fnLinesReadUptoRow.holds Try.pinned (OpenSpec.upto fnLinesReadSpec)

/-- 'laws.FnPadded', WHERE WHAT IT READS IS OF BULK AT MOST 1048576: true; the input reads as it did. -/
def fnPaddedUptoRow : OpenClaim := { program := "ytilkopbfbmibgaa", sum := "eea881ec801040278a8d807f3abf4a50ddb44bc6ed6bcd61357f40fe83d6dcb5", func := "loop.example/g00833/laws.FnPadded", spec := "fnPadded", apart := false, narrowed := true }
def FnPaddedUptoSaid : Prop := fnPaddedUptoRow.holds Try.pinned (OpenSpec.upto fnPaddedSpec)

/-- 'laws.FnExactCellsOf', WHERE WHAT IT READS IS OF BULK AT MOST 1048576: true; the input reads as it did. -/
def fnExactCellsOfUptoRow : OpenClaim := { program := "ytilkopbfbmibgaa", sum := "eea881ec801040278a8d807f3abf4a50ddb44bc6ed6bcd61357f40fe83d6dcb5", func := "loop.example/g00833/laws.FnExactCellsOf", spec := "fnExactCellsOf", leaving := true, apart := false, narrowed := true }
def FnExactCellsOfUptoSaid : Prop := fnExactCellsOfUptoRow.holds Try.pinned (OpenSpec.upto fnExactCellsOfSpec)

/-- 'laws.FnExactBytesOfLine', WHERE WHAT IT READS IS OF BULK AT MOST 1048576: true; the input reads as it did. -/
def fnExactBytesOfLineUptoRow : OpenClaim := { program := "ytilkopbfbmibgaa", sum := "eea881ec801040278a8d807f3abf4a50ddb44bc6ed6bcd61357f40fe83d6dcb5", func := "loop.example/g00833/laws.FnExactBytesOfLine", spec := "fnExactBytesOfLine", apart := false, narrowed := true }
def FnExactBytesOfLineUptoSaid : Prop := fnExactBytesOfLineUptoRow.holds Try.pinned (OpenSpec.upto fnExactBytesOfLineSpec)

/-- 'laws.FnExactShapeOfLine', WHERE WHAT IT READS IS OF BULK AT MOST 1048576: true; the input reads as it did. -/
def fnExactShapeOfLineUptoRow : OpenClaim := { program := "ytilkopbfbmibgaa", sum := "eea881ec801040278a8d807f3abf4a50ddb44bc6ed6bcd61357f40fe83d6dcb5", func := "loop.example/g00833/laws.FnExactShapeOfLine", spec := "fnExactShapeOfLine", apart := false, narrowed := true }
def FnExactShapeOfLineUptoSaid : Prop := fnExactShapeOfLineUptoRow.holds Try.pinned (OpenSpec.upto fnExactShapeOfLineSpec)

/-- 'laws.FnExactIsLine', WHERE WHAT IT READS IS OF BULK AT MOST 1048576: true; the input reads as it did. -/
def fnExactIsLineUptoRow : OpenClaim := { program := "ytilkopbfbmibgaa", sum := "eea881ec801040278a8d807f3abf4a50ddb44bc6ed6bcd61357f40fe83d6dcb5", func := "loop.example/g00833/laws.FnExactIsLine", spec := "fnExactIsLine", apart := false, narrowed := true }
def FnExactIsLineUptoSaid : Prop := fnExactIsLineUptoRow.holds Try.pinned (OpenSpec.upto fnExactIsLineSpec)

/-- 'laws.FnExactPadLine', WHERE WHAT IT READS IS OF BULK AT MOST 1048576: true; the input reads as it did. -/
def fnExactPadLineUptoRow : OpenClaim := { program := "ytilkopbfbmibgaa", sum := "eea881ec801040278a8d807f3abf4a50ddb44bc6ed6bcd61357f40fe83d6dcb5", func := "loop.example/g00833/laws.FnExactPadLine", spec := "fnExactPadLine", apart := false, narrowed := true }
def FnExactPadLineUptoSaid : Prop := fnExactPadLineUptoRow.holds Try.pinned (OpenSpec.upto fnExactPadLineSpec)

/-- 'laws.FnExactDataCells', WHERE WHAT IT READS IS OF BULK AT MOST 1048576: true; the input reads as it did. -/
def fnExactDataCellsUptoRow : OpenClaim := { program := "ytilkopbfbmibgaa", sum := "eea881ec801040278a8d807f3abf4a50ddb44bc6ed6bcd61357f40fe83d6dcb5", func := "loop.example/g00833/laws.FnExactDataCells", spec := "fnExactDataCells", apart := false, narrowed := true }
def FnExactDataCellsUptoSaid : Prop := fnExactDataCellsUptoRow.holds Try.pinned (OpenSpec.upto fnExactDataCellsSpec)

/-- 'laws.FnExactTransmissionSize', WHERE WHAT IT READS IS OF BULK AT MOST 1048576: true; the input reads as it did. -/
def fnExactTransmissionSizeUptoRow : OpenClaim := { program := "ytilkopbfbmibgaa", sum := "eea881ec801040278a8d807f3abf4a50ddb44bc6ed6bcd61357f40fe83d6dcb5", func := "loop.example/g00833/laws.FnExactTransmissionSize", spec := "fnExactTransmissionSize", apart := false, narrowed := true }
def FnExactTransmissionSizeUptoSaid : Prop := fnExactTransmissionSizeUptoRow.holds Try.pinned (OpenSpec.upto fnExactTransmissionSizeSpec)

end Rows
end Go.Proofs.Ytilkopbfbmibgaa
