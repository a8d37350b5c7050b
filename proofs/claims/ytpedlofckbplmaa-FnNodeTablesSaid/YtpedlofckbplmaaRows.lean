/-
  No cell of these rows narrows 'for every input' (looked for: loops, veiled, ifaces, maps, wideKeys, modest, calm, conditions, laid).
  DERIVED. THE GIVEN ROWS OF THIS SEAT. 6 by the template 'for every input the law returns true; each argument reads behind the call as it read before'; 0 by the template 'total and deterministic' (their statements: YtpedlofckbplmaaTotals.lean).
  GIVEN WITH THE SEED: the statements are not yours to turn. If you find one false, say at which input.
  Laid BY PROGRAM, IN A SANDBOX (cutbox-rows.mjs): the forced cells as the released guide's own fill.sh prints them over the translation c2f1a0c6a4a70721… (all of the seat's roots in one cut). By AI agents, Wed Nov 11 2026. No macro, syntax, notation, axiom, sorry.
-/
import Derived.Test.YtpedlofckbplmaaChecked
import GoSem.Claim
import GoSem.ClaimJoined
import GoSem.ClaimMapViews
import Derived.JoinedTies
import Derived.KernelRfl
namespace Go.Proofs.Ytpedlofckbplmaa
/- THE CELL 'sum', in the pinned program and in every row, IS THE sha256 OF THE DUMP (.gsa) THAT YtpedlofckbplmaaProg.lean LOADS. Nothing in Lean hashes anything: it is a label: what it is worth is what the hold of that sum in a sandbox is worth. -/
noncomputable def Try.pinned : Pinned := { name := "ytpedlofckbplmaa", sum := "c2f1a0c6a4a70721e53eaa790f73dc04249157d3dd412d77b4fd6a6bdef0720f", checked := Try.checked }
namespace Rows
def none {H : Type} : Left H := { results := [], args := [] }

/-- 'laws.FnNodeTables': WHATEVER THE INPUT: true; the input reads as it did. -/
def fnNodeTablesSpec : ChangeSpec := { name := "fnNodeTables", fn := fun _ => fun
  | [d] => { results := [.lit (.bool true)], args := [d] }
  | _ => none }
def fnNodeTablesRow : OpenClaim := { program := "ytpedlofckbplmaa", sum := "c2f1a0c6a4a70721e53eaa790f73dc04249157d3dd412d77b4fd6a6bdef0720f", func := "loop.example/g00833/laws.FnNodeTables", spec := "fnNodeTables", unfollowed := true, recurses := true, apart := false }
def FnNodeTablesSaid : Prop := fnNodeTablesRow.holds Try.pinned (OpenSpec.ofChange fnNodeTablesSpec)

/-- ITS FALSE NEIGHBOUR: 'it returns false'. Refute it at one input. -/
def fnNodeTablesWrong : ChangeSpec := { name := "fnNodeTables", fn := fun _ => fun
  | [d] => { results := [.lit (.bool false)], args := [d] }
  | _ => none }
def FnNodeTablesWrongFalsely : Prop := fnNodeTablesRow.holds Try.pinned (OpenSpec.ofChange fnNodeTablesWrong)

/-- 'laws.FnExactReadNodeTable': WHATEVER THE INPUT: true; the input reads as it did. -/
def fnExactReadNodeTableSpec : ChangeSpec := { name := "fnExactReadNodeTable", fn := fun _ => fun
  | [d] => { results := [.lit (.bool true)], args := [d] }
  | _ => none }
def fnExactReadNodeTableRow : OpenClaim := { program := "ytpedlofckbplmaa", sum := "c2f1a0c6a4a70721e53eaa790f73dc04249157d3dd412d77b4fd6a6bdef0720f", func := "loop.example/g00833/laws.FnExactReadNodeTable", spec := "fnExactReadNodeTable", unfollowed := true, recurses := true, apart := false }
def FnExactReadNodeTableSaid : Prop := fnExactReadNodeTableRow.holds Try.pinned (OpenSpec.ofChange fnExactReadNodeTableSpec)

/-- ITS FALSE NEIGHBOUR: 'it returns false'. Refute it at one input. -/
def fnExactReadNodeTableWrong : ChangeSpec := { name := "fnExactReadNodeTable", fn := fun _ => fun
  | [d] => { results := [.lit (.bool false)], args := [d] }
  | _ => none }
def FnExactReadNodeTableWrongFalsely : Prop := fnExactReadNodeTableRow.holds Try.pinned (OpenSpec.ofChange fnExactReadNodeTableWrong)

/-- 'laws.FnModeTables': WHATEVER THE INPUT: true; the input reads as it did. -/
def fnModeTablesSpec : ChangeSpec := { name := "fnModeTables", fn := fun _ => fun
  | [d] => { results := [.lit (.bool true)], args := [d] }
  | _ => none }
def fnModeTablesRow : OpenClaim := { program := "ytpedlofckbplmaa", sum := "c2f1a0c6a4a70721e53eaa790f73dc04249157d3dd412d77b4fd6a6bdef0720f", func := "loop.example/g00833/laws.FnModeTables", spec := "fnModeTables", unfollowed := true, recurses := true, apart := false }
def FnModeTablesSaid : Prop := fnModeTablesRow.holds Try.pinned (OpenSpec.ofChange fnModeTablesSpec)

/-- ITS FALSE NEIGHBOUR: 'it returns false'. Refute it at one input. -/
def fnModeTablesWrong : ChangeSpec := { name := "fnModeTables", fn := fun _ => fun
  | [d] => { results := [.lit (.bool false)], args := [d] }
  | _ => none }
def FnModeTablesWrongFalsely : Prop := fnModeTablesRow.holds Try.pinned (OpenSpec.ofChange fnModeTablesWrong)

/-- 'laws.FnExactReadModeTable': WHATEVER THE INPUT: true; the input reads as it did. -/
def fnExactReadModeTableSpec : ChangeSpec := { name := "fnExactReadModeTable", fn := fun _ => fun
  | [d] => { results := [.lit (.bool true)], args := [d] }
  | _ => none }
def fnExactReadModeTableRow : OpenClaim := { program := "ytpedlofckbplmaa", sum := "c2f1a0c6a4a70721e53eaa790f73dc04249157d3dd412d77b4fd6a6bdef0720f", func := "loop.example/g00833/laws.FnExactReadModeTable", spec := "fnExactReadModeTable", unfollowed := true, recurses := true, apart := false }
def FnExactReadModeTableSaid : Prop := fnExactReadModeTableRow.holds Try.pinned (OpenSpec.ofChange fnExactReadModeTableSpec)

/-- ITS FALSE NEIGHBOUR: 'it returns false'. Refute it at one input. -/
def fnExactReadModeTableWrong : ChangeSpec := { name := "fnExactReadModeTable", fn := fun _ => fun
  | [d] => { results := [.lit (.bool false)], args := [d] }
  | _ => none }
def FnExactReadModeTableWrongFalsely : Prop := fnExactReadModeTableRow.holds Try.pinned (OpenSpec.ofChange fnExactReadModeTableWrong)

/-- 'laws.FnSlotTables': WHATEVER THE INPUT: true; the input reads as it did. -/
def fnSlotTablesSpec : ChangeSpec := { name := "fnSlotTables", fn := fun _ => fun
  | [d] => { results := [.lit (.bool true)], args := [d] }
  | _ => none }
def fnSlotTablesRow : OpenClaim := { program := "ytpedlofckbplmaa", sum := "c2f1a0c6a4a70721e53eaa790f73dc04249157d3dd412d77b4fd6a6bdef0720f", func := "loop.example/g00833/laws.FnSlotTables", spec := "fnSlotTables", unfollowed := true, recurses := true, apart := false }
def FnSlotTablesSaid : Prop := fnSlotTablesRow.holds Try.pinned (OpenSpec.ofChange fnSlotTablesSpec)

/-- ITS FALSE NEIGHBOUR: 'it returns false'. Refute it at one input. -/
def fnSlotTablesWrong : ChangeSpec := { name := "fnSlotTables", fn := fun _ => fun
  | [d] => { results := [.lit (.bool false)], args := [d] }
  | _ => none }
def FnSlotTablesWrongFalsely : Prop := fnSlotTablesRow.holds Try.pinned (OpenSpec.ofChange fnSlotTablesWrong)

/-- 'laws.FnExactReadSlotTable': WHATEVER THE INPUT: true; the input reads as it did. -/
def fnExactReadSlotTableSpec : ChangeSpec := { name := "fnExactReadSlotTable", fn := fun _ => fun
  | [d] => { results := [.lit (.bool true)], args := [d] }
  | _ => none }
def fnExactReadSlotTableRow : OpenClaim := { program := "ytpedlofckbplmaa", sum := "c2f1a0c6a4a70721e53eaa790f73dc04249157d3dd412d77b4fd6a6bdef0720f", func := "loop.example/g00833/laws.FnExactReadSlotTable", spec := "fnExactReadSlotTable", unfollowed := true, recurses := true, apart := false }
def FnExactReadSlotTableSaid : Prop := fnExactReadSlotTableRow.holds Try.pinned (OpenSpec.ofChange fnExactReadSlotTableSpec)

/-- ITS FALSE NEIGHBOUR: 'it returns false'. Refute it at one input. -/
def fnExactReadSlotTableWrong : ChangeSpec := { name := "fnExactReadSlotTable", fn := fun _ => fun
  | [d] => { results := [.lit (.bool false)], args := [d] }
  | _ => none }
def FnExactReadSlotTableWrongFalsely : Prop := fnExactReadSlotTableRow.holds Try.pinned (OpenSpec.ofChange fnExactReadSlotTableWrong)

/- THE SECOND FORM. 'bulk': how many values and letters a reading holds, each counted each time it is reached (what is shared counts as often as it is met; a slice's spare places count too). A statement '..UptoSaid' is the law's where the arguments, and the package variables that the reading takes, are together of bulk at most 1048576: NARROWER than '..Said'. Prove '..Said' where nothing that the law and all that it calls make is longer than what came in: it says more and counts as full. Else prove '..UptoSaid'. A law counts once. -/
mutual
def uptoBulk {H : Type} : DataW H → Nat
  | .lit (.string bytes) => bytes.length + 1
  | .lit _ => 1
  | .nil => 1
  | .ptr d => uptoBulk d + 1
  | .slice elems spare => uptoBulkAll elems + uptoBulkAll spare + 1
  | .agg parts => uptoBulkAll parts + 1
  | .iface _ d => uptoBulk d + 1
  | .map entries => uptoBulkEntries entries + 1
  | .held _ => 1
def uptoBulkAll {H : Type} : List (DataW H) → Nat
  | [] => 0
  | d :: r => uptoBulk d + uptoBulkAll r
def uptoBulkEntries {H : Type} : List (Lit × DataW H) → Nat
  | [] => 0
  | x :: r => uptoBulkEntry x + uptoBulkEntries r
def uptoBulkEntry {H : Type} : Lit × DataW H → Nat
  | (.string bytes, d) => bytes.length + uptoBulk d + 1
  | (_, d) => uptoBulk d + 1
 end
def uptoSmall : (H : Type) → List (DataW H) → Bool := fun _ ds => decide (uptoBulkAll ds ≤ 1048576)
def OpenSpec.upto (s : _root_.Go.ChangeSpec) : _root_.Go.OpenSpec := { _root_.Go.OpenSpec.ofChange s with cond := some uptoSmall }

/-- 'laws.FnNodeTables', WHERE WHAT IT READS IS OF BULK AT MOST 1048576: true; the input reads as it did. -/
def fnNodeTablesUptoRow : OpenClaim := { program := "ytpedlofckbplmaa", sum := "c2f1a0c6a4a70721e53eaa790f73dc04249157d3dd412d77b4fd6a6bdef0720f", func := "loop.example/g00833/laws.FnNodeTables", spec := "fnNodeTables", unfollowed := true, recurses := true, apart := false, narrowed := true }
def FnNodeTablesUptoSaid : Prop := fnNodeTablesUptoRow.holds Try.pinned (OpenSpec.upto fnNodeTablesSpec)

/-- 'laws.FnExactReadNodeTable', WHERE WHAT IT READS IS OF BULK AT MOST 1048576: true; the input reads as it did. -/
def fnExactReadNodeTableUptoRow : OpenClaim := { program := "ytpedlofckbplmaa", sum := "c2f1a0c6a4a70721e53eaa790f73dc04249157d3dd412d77b4fd6a6bdef0720f", func := "loop.example/g00833/laws.FnExactReadNodeTable", spec := "fnExactReadNodeTable", unfollowed := true, recurses := true, apart := false, narrowed := true }
def FnExactReadNodeTableUptoSaid : Prop := fnExactReadNodeTableUptoRow.holds Try.pinned (OpenSpec.upto fnExactReadNodeTableSpec)

/-- 'laws.FnModeTables', WHERE WHAT IT READS IS OF BULK AT MOST 1048576: true; the input reads as it did. -/
def fnModeTablesUptoRow : OpenClaim := { program := "ytpedlofckbplmaa", sum := "c2f1a0c6a4a70721e53eaa790f73dc04249157d3dd412d77b4fd6a6bdef0720f", func := "loop.example/g00833/laws.FnModeTables", spec := "fnModeTables", unfollowed := true, recurses := true, apart := false, narrowed := true }
def FnModeTablesUptoSaid : Prop := fnModeTablesUptoRow.holds Try.pinned (OpenSpec.upto fnModeTablesSpec)

/-- 'laws.FnExactReadModeTable', WHERE WHAT IT READS IS OF BULK AT MOST 1048576: true; the input reads as it did. -/
def fnExactReadModeTableUptoRow : OpenClaim := { program := "ytpedlofckbplmaa", sum := "c2f1a0c6a4a70721e53eaa790f73dc04249157d3dd412d77b4fd6a6bdef0720f", func := "loop.example/g00833/laws.FnExactReadModeTable", spec := "fnExactReadModeTable", unfollowed := true, recurses := true, apart := false, narrowed := true }
def FnExactReadModeTableUptoSaid : Prop := fnExactReadModeTableUptoRow.holds Try.pinned (OpenSpec.upto fnExactReadModeTableSpec)

/-- 'laws.FnSlotTables', WHERE WHAT IT READS IS OF BULK AT MOST 1048576: true; the input reads as it did. -/
def fnSlotTablesUptoRow : OpenClaim := { program := "ytpedlofckbplmaa", sum := "c2f1a0c6a4a70721e53eaa790f73dc04249157d3dd412d77b4fd6a6bdef0720f", func := "loop.example/g00833/laws.FnSlotTables", spec := "fnSlotTables", unfollowed := true, recurses := true, apart := false, narrowed := true }
def FnSlotTablesUptoSaid : Prop := fnSlotTablesUptoRow.holds Try.pinned (OpenSpec.upto fnSlotTablesSpec)

/-- 'laws.FnExactReadSlotTable', WHERE WHAT IT READS IS OF BULK AT MOST 1048576: true; the input reads as it did. -/
def fnExactReadSlotTableUptoRow : OpenClaim := { program := "ytpedlofckbplmaa", sum := "c2f1a0c6a4a70721e53eaa790f73dc04249157d3dd412d77b4fd6a6bdef0720f", func := "loop.example/g00833/laws.FnExactReadSlotTable", spec := "fnExactReadSlotTable", unfollowed := true, recurses := true, apart := false, narrowed := true }
def FnExactReadSlotTableUptoSaid : Prop := fnExactReadSlotTableUptoRow.holds Try.pinned (OpenSpec.upto fnExactReadSlotTableSpec)

end Rows
end Go.Proofs.Ytpedlofckbplmaa
