/-
  No cell of these rows narrows 'for every input' (looked for: loops, veiled, ifaces, maps, wideKeys, modest, calm, conditions, laid).
  DERIVED. THE GIVEN ROWS OF THIS SEAT. 9 by the template 'for every input the law returns true; each argument reads behind the call as it read before'; 0 by the template 'total and deterministic' (their statements: YtpghbbpidlfelaaTotals.lean).
  GIVEN WITH THE SEED: the statements are not yours to turn. If you find one false, say at which input.
  Laid BY PROGRAM, IN A SANDBOX (cutbox-rows.mjs): the forced cells as the released guide's own fill.sh prints them over the translation e3a0111d894d41ec… (all of the seat's roots in one cut). By AI agents, Wed Nov 11 2026. No macro, syntax, notation, axiom, sorry.
-/
import Derived.Test.YtpghbbpidlfelaaChecked
import GoSem.Claim
import GoSem.ClaimJoined
import GoSem.ClaimMapViews
import Derived.JoinedTies
import Derived.KernelRfl
namespace Go.Proofs.Ytpghbbpidlfelaa
/- THE CELL 'sum', in the pinned program and in every row, IS THE sha256 OF THE DUMP (.gsa) THAT YtpghbbpidlfelaaProg.lean LOADS. Nothing in Lean hashes anything: it is a label: what it is worth is what the hold of that sum in a sandbox is worth. -/
noncomputable def Try.pinned : Pinned := { name := "ytpghbbpidlfelaa", sum := "e3a0111d894d41ec2e00af348ef0e91f22b53a7e27d5300b5032a26df91e59d3", checked := Try.checked }
namespace Rows
def none {H : Type} : Left H := { results := [], args := [] }

/-- 'laws.FnNodeTables': WHATEVER THE INPUT: true; the input reads as it did. -/
def fnNodeTablesSpec : ChangeSpec := { name := "fnNodeTables", fn := fun _ => fun
  | [d] => { results := [.lit (.bool true)], args := [d] }
  | _ => none }
def fnNodeTablesRow : OpenClaim := { program := "ytpghbbpidlfelaa", sum := "e3a0111d894d41ec2e00af348ef0e91f22b53a7e27d5300b5032a26df91e59d3", func := "loop.example/g00833/laws.FnNodeTables", spec := "fnNodeTables", unfollowed := true, recurses := true, apart := false }
def FnNodeTablesSaid : Prop := fnNodeTablesRow.holds Try.pinned (OpenSpec.ofChange fnNodeTablesSpec)

/-- ITS FALSE NEIGHBOUR: 'it returns false'. Refute it at one input. -/
def fnNodeTablesWrong : ChangeSpec := { name := "fnNodeTables", fn := fun _ => fun
  | [d] => { results := [.lit (.bool false)], args := [d] }
  | _ => none }
def FnNodeTablesWrongFalsely : Prop := fnNodeTablesRow.holds Try.pinned (OpenSpec.ofChange fnNodeTablesWrong)

/-- 'laws.FnActive': WHATEVER THE INPUT: true; the input reads as it did. -/
def fnActiveSpec : ChangeSpec := { name := "fnActive", fn := fun _ => fun
  | [d] => { results := [.lit (.bool true)], args := [d] }
  | _ => none }
def fnActiveRow : OpenClaim := { program := "ytpghbbpidlfelaa", sum := "e3a0111d894d41ec2e00af348ef0e91f22b53a7e27d5300b5032a26df91e59d3", func := "loop.example/g00833/laws.FnActive", spec := "fnActive", unfollowed := true, recurses := true, apart := false }
def FnActiveSaid : Prop := fnActiveRow.holds Try.pinned (OpenSpec.ofChange fnActiveSpec)

/-- ITS FALSE NEIGHBOUR: 'it returns false'. Refute it at one input. -/
def fnActiveWrong : ChangeSpec := { name := "fnActive", fn := fun _ => fun
  | [d] => { results := [.lit (.bool false)], args := [d] }
  | _ => none }
def FnActiveWrongFalsely : Prop := fnActiveRow.holds Try.pinned (OpenSpec.ofChange fnActiveWrong)

/-- 'laws.FnExactIsNodeInfo': WHATEVER THE INPUT: true; the input reads as it did. -/
def fnExactIsNodeInfoSpec : ChangeSpec := { name := "fnExactIsNodeInfo", fn := fun _ => fun
  | [d] => { results := [.lit (.bool true)], args := [d] }
  | _ => none }
def fnExactIsNodeInfoRow : OpenClaim := { program := "ytpghbbpidlfelaa", sum := "e3a0111d894d41ec2e00af348ef0e91f22b53a7e27d5300b5032a26df91e59d3", func := "loop.example/g00833/laws.FnExactIsNodeInfo", spec := "fnExactIsNodeInfo", apart := false }
def FnExactIsNodeInfoSaid : Prop := fnExactIsNodeInfoRow.holds Try.pinned (OpenSpec.ofChange fnExactIsNodeInfoSpec)

/-- ITS FALSE NEIGHBOUR: 'it returns false'. Refute it at one input. -/
def fnExactIsNodeInfoWrong : ChangeSpec := { name := "fnExactIsNodeInfo", fn := fun _ => fun
  | [d] => { results := [.lit (.bool false)], args := [d] }
  | _ => none }
def FnExactIsNodeInfoWrongFalsely : Prop := fnExactIsNodeInfoRow.holds Try.pinned (OpenSpec.ofChange fnExactIsNodeInfoWrong)

/-- 'laws.FnExactIsNodeTable': WHATEVER THE INPUT: true; the input reads as it did. -/
def fnExactIsNodeTableSpec : ChangeSpec := { name := "fnExactIsNodeTable", fn := fun _ => fun
  | [d] => { results := [.lit (.bool true)], args := [d] }
  | _ => none }
def fnExactIsNodeTableRow : OpenClaim := { program := "ytpghbbpidlfelaa", sum := "e3a0111d894d41ec2e00af348ef0e91f22b53a7e27d5300b5032a26df91e59d3", func := "loop.example/g00833/laws.FnExactIsNodeTable", spec := "fnExactIsNodeTable", unfollowed := true, recurses := true, apart := false }
def FnExactIsNodeTableSaid : Prop := fnExactIsNodeTableRow.holds Try.pinned (OpenSpec.ofChange fnExactIsNodeTableSpec)

/-- ITS FALSE NEIGHBOUR: 'it returns false'. Refute it at one input. -/
def fnExactIsNodeTableWrong : ChangeSpec := { name := "fnExactIsNodeTable", fn := fun _ => fun
  | [d] => { results := [.lit (.bool false)], args := [d] }
  | _ => none }
def FnExactIsNodeTableWrongFalsely : Prop := fnExactIsNodeTableRow.holds Try.pinned (OpenSpec.ofChange fnExactIsNodeTableWrong)

/-- 'laws.FnExactNodeTableBytes': WHATEVER THE INPUT: true; the input reads as it did. -/
def fnExactNodeTableBytesSpec : ChangeSpec := { name := "fnExactNodeTableBytes", fn := fun _ => fun
  | [d] => { results := [.lit (.bool true)], args := [d] }
  | _ => none }
def fnExactNodeTableBytesRow : OpenClaim := { program := "ytpghbbpidlfelaa", sum := "e3a0111d894d41ec2e00af348ef0e91f22b53a7e27d5300b5032a26df91e59d3", func := "loop.example/g00833/laws.FnExactNodeTableBytes", spec := "fnExactNodeTableBytes", unfollowed := true, recurses := true, apart := false }
def FnExactNodeTableBytesSaid : Prop := fnExactNodeTableBytesRow.holds Try.pinned (OpenSpec.ofChange fnExactNodeTableBytesSpec)

/-- ITS FALSE NEIGHBOUR: 'it returns false'. Refute it at one input. -/
def fnExactNodeTableBytesWrong : ChangeSpec := { name := "fnExactNodeTableBytes", fn := fun _ => fun
  | [d] => { results := [.lit (.bool false)], args := [d] }
  | _ => none }
def FnExactNodeTableBytesWrongFalsely : Prop := fnExactNodeTableBytesRow.holds Try.pinned (OpenSpec.ofChange fnExactNodeTableBytesWrong)

/-- 'laws.FnExactReadNodeTable': WHATEVER THE INPUT: true; the input reads as it did. -/
def fnExactReadNodeTableSpec : ChangeSpec := { name := "fnExactReadNodeTable", fn := fun _ => fun
  | [d] => { results := [.lit (.bool true)], args := [d] }
  | _ => none }
def fnExactReadNodeTableRow : OpenClaim := { program := "ytpghbbpidlfelaa", sum := "e3a0111d894d41ec2e00af348ef0e91f22b53a7e27d5300b5032a26df91e59d3", func := "loop.example/g00833/laws.FnExactReadNodeTable", spec := "fnExactReadNodeTable", unfollowed := true, recurses := true, apart := false }
def FnExactReadNodeTableSaid : Prop := fnExactReadNodeTableRow.holds Try.pinned (OpenSpec.ofChange fnExactReadNodeTableSpec)

/-- ITS FALSE NEIGHBOUR: 'it returns false'. Refute it at one input. -/
def fnExactReadNodeTableWrong : ChangeSpec := { name := "fnExactReadNodeTable", fn := fun _ => fun
  | [d] => { results := [.lit (.bool false)], args := [d] }
  | _ => none }
def FnExactReadNodeTableWrongFalsely : Prop := fnExactReadNodeTableRow.holds Try.pinned (OpenSpec.ofChange fnExactReadNodeTableWrong)

/-- 'laws.FnExactFindNode': WHATEVER THE INPUT: true; the input reads as it did. -/
def fnExactFindNodeSpec : ChangeSpec := { name := "fnExactFindNode", fn := fun _ => fun
  | [d1, d2] => { results := [.lit (.bool true)], args := [d1, d2] }
  | _ => none }
def fnExactFindNodeRow : OpenClaim := { program := "ytpghbbpidlfelaa", sum := "e3a0111d894d41ec2e00af348ef0e91f22b53a7e27d5300b5032a26df91e59d3", func := "loop.example/g00833/laws.FnExactFindNode", spec := "fnExactFindNode", unfollowed := true, recurses := true, apart := false }
def FnExactFindNodeSaid : Prop := fnExactFindNodeRow.holds Try.pinned (OpenSpec.ofChange fnExactFindNodeSpec)

/-- ITS FALSE NEIGHBOUR: 'it returns false'. Refute it at one input. -/
def fnExactFindNodeWrong : ChangeSpec := { name := "fnExactFindNode", fn := fun _ => fun
  | [d1, d2] => { results := [.lit (.bool false)], args := [d1, d2] }
  | _ => none }
def FnExactFindNodeWrongFalsely : Prop := fnExactFindNodeRow.holds Try.pinned (OpenSpec.ofChange fnExactFindNodeWrong)

/-- 'laws.FnExactActiveVector': WHATEVER THE INPUT: true; the input reads as it did. -/
def fnExactActiveVectorSpec : ChangeSpec := { name := "fnExactActiveVector", fn := fun _ => fun
  | [d] => { results := [.lit (.bool true)], args := [d] }
  | _ => none }
def fnExactActiveVectorRow : OpenClaim := { program := "ytpghbbpidlfelaa", sum := "e3a0111d894d41ec2e00af348ef0e91f22b53a7e27d5300b5032a26df91e59d3", func := "loop.example/g00833/laws.FnExactActiveVector", spec := "fnExactActiveVector", unfollowed := true, recurses := true, apart := false }
def FnExactActiveVectorSaid : Prop := fnExactActiveVectorRow.holds Try.pinned (OpenSpec.ofChange fnExactActiveVectorSpec)

/-- ITS FALSE NEIGHBOUR: 'it returns false'. Refute it at one input. -/
def fnExactActiveVectorWrong : ChangeSpec := { name := "fnExactActiveVector", fn := fun _ => fun
  | [d] => { results := [.lit (.bool false)], args := [d] }
  | _ => none }
def FnExactActiveVectorWrongFalsely : Prop := fnExactActiveVectorRow.holds Try.pinned (OpenSpec.ofChange fnExactActiveVectorWrong)

/-- 'laws.FnExactWorstDrift': WHATEVER THE INPUT: true; the input reads as it did. -/
def fnExactWorstDriftSpec : ChangeSpec := { name := "fnExactWorstDrift", fn := fun _ => fun
  | [d1, d2] => { results := [.lit (.bool true)], args := [d1, d2] }
  | _ => none }
def fnExactWorstDriftRow : OpenClaim := { program := "ytpghbbpidlfelaa", sum := "e3a0111d894d41ec2e00af348ef0e91f22b53a7e27d5300b5032a26df91e59d3", func := "loop.example/g00833/laws.FnExactWorstDrift", spec := "fnExactWorstDrift", unfollowed := true, recurses := true, apart := false }
def FnExactWorstDriftSaid : Prop := fnExactWorstDriftRow.holds Try.pinned (OpenSpec.ofChange fnExactWorstDriftSpec)

/-- ITS FALSE NEIGHBOUR: 'it returns false'. Refute it at one input. -/
def fnExactWorstDriftWrong : ChangeSpec := { name := "fnExactWorstDrift", fn := fun _ => fun
  | [d1, d2] => { results := [.lit (.bool false)], args := [d1, d2] }
  | _ => none }
def FnExactWorstDriftWrongFalsely : Prop := fnExactWorstDriftRow.holds Try.pinned (OpenSpec.ofChange fnExactWorstDriftWrong)

/- THE SECOND FORM. 'bulk': how many values and letters a reading holds, each counted each time it is reached (what is shared counts as often as it is met; a slice's spare places count too). A statement '..UptoSaid' is the law's where the arguments, and the package variables that the reading takes, are together of bulk at most 1048576: NARROWER than '..Said'. Prove '..Said' where nothing that the law and all that it calls make is longer than what came in: it says more and counts as full. Else prove '..UptoSaid'. A law counts once. -/
mutual
def uptoBulk {H : Type} : DataW H → Nat
  | .lit (.string bytes) => bytes.length + 1
  | .lit _ => 1
  | .nil => 1
  | .ptr d => uptoBulk d + 1
  | .slice elems spare => uptoBulkAll elems + uptoBulkAll spare + 1
  | .agg parts => uptoBulkAll parts + 1
  | .iface _ d => uptoBulk d + 1
  | .map entries => uptoBulkEntries entries + 1
  | .held _ => 1
def uptoBulkAll {H : Type} : List (DataW H) → Nat
  | [] => 0
  | d :: r => uptoBulk d + uptoBulkAll r
def uptoBulkEntries {H : Type} : List (Lit × DataW H) → Nat
  | [] => 0
  | x :: r => uptoBulkEntry x + uptoBulkEntries r
def uptoBulkEntry {H : Type} : Lit × DataW H → Nat
  | (.string bytes, d) => bytes.length + uptoBulk d + 1
  | (_, d) => uptoBulk d + 1
 end
def uptoSmall : (H : Type) → List (DataW H) → Bool := fun _ ds => decide (uptoBulkAll ds ≤ 1048576)
def OpenSpec.upto (s : _root_.Go.ChangeSpec) : _root_.Go.OpenSpec := { _root_.Go.OpenSpec.ofChange s with cond := some uptoSmall }

/-- 'laws.FnNodeTables', WHERE WHAT IT READS IS OF BULK AT MOST 1048576: true; the input reads as it did. -/
def fnNodeTablesUptoRow : OpenClaim := { program := "ytpghbbpidlfelaa", sum := "e3a0111d894d41ec2e00af348ef0e91f22b53a7e27d5300b5032a26df91e59d3", func := "loop.example/g00833/laws.FnNodeTables", spec := "fnNodeTables", unfollowed := true, recurses := true, apart := false, narrowed := true }
def FnNodeTablesUptoSaid : Prop := fnNodeTablesUptoRow.holds Try.pinned (OpenSpec.upto fnNodeTablesSpec)

/-- 'laws.FnActive', WHERE WHAT IT READS IS OF BULK AT MOST 1048576: true; the input reads as it did. -/
def fnActiveUptoRow : OpenClaim := { program := "ytpghbbpidlfelaa", sum := "e3a0111d894d41ec2e00af348ef0e91f22b53a7e27d5300b5032a26df91e59d3", func := "loop.example/g00833/laws.FnActive", spec := "fnActive", unfollowed := true, recurses := true, apart := false, narrowed := true }
def FnActiveUptoSaid : Prop := fnActiveUptoRow.holds Try.pinned (OpenSpec.upto fnActiveSpec)

/-- 'laws.FnExactIsNodeInfo', WHERE WHAT IT READS IS OF BULK AT MOST 1048576: true; the input reads as it did. -/
def fnExactIsNodeInfoUptoRow : OpenClaim := { program := "ytpghbbpidlfelaa", sum := "e3a0111d894d41ec2e00af348ef0e91f22b53a7e27d5300b5032a26df91e59d3", func := "loop.example/g00833/laws.FnExactIsNodeInfo", spec := "fnExactIsNodeInfo", apart := false, narrowed := true }
def FnExactIsNodeInfoUptoSaid : Prop := fnExactIsNodeInfoUptoRow.holds Try.pinned (OpenSpec.upto fnExactIsNodeInfoSpec)

/-- 'laws.FnExactIsNodeTable', WHERE WHAT IT READS IS OF BULK AT MOST 1048576: true; the input reads as it did. -/
def fnExactIsNodeTableUptoRow : OpenClaim := { program := "ytpghbbpidlfelaa", sum := "e3a0111d894d41ec2e00af348ef0e91f22b53a7e27d5300b5032a26df91e59d3", func := "loop.example/g00833/laws.FnExactIsNodeTable", spec := "fnExactIsNodeTable", unfollowed := true, recurses := true, apart := false, narrowed := true }
def FnExactIsNodeTableUptoSaid : Prop := fnExactIsNodeTableUptoRow.holds Try.pinned (OpenSpec.upto fnExactIsNodeTableSpec)

/-- 'laws.FnExactNodeTableBytes', WHERE WHAT IT READS IS OF BULK AT MOST 1048576: true; the input reads as it did. -/
def fnExactNodeTableBytesUptoRow : OpenClaim := { program := "ytpghbbpidlfelaa", sum := "e3a0111d894d41ec2e00af348ef0e91f22b53a7e27d5300b5032a26df91e59d3", func := "loop.example/g00833/laws.FnExactNodeTableBytes", spec := "fnExactNodeTableBytes", unfollowed := true, recurses := true, apart := false, narrowed := true }
def FnExactNodeTableBytesUptoSaid : Prop := fnExactNodeTableBytesUptoRow.holds Try.pinned (OpenSpec.upto fnExactNodeTableBytesSpec)

/-- 'laws.FnExactReadNodeTable', WHERE WHAT IT READS IS OF BULK AT MOST 1048576: true; the input reads as it did. -/
def fnExactReadNodeTableUptoRow : OpenClaim := { program := "ytpghbbpidlfelaa", sum := "e3a0111d894d41ec2e00af348ef0e91f22b53a7e27d5300b5032a26df91e59d3", func := "loop.example/g00833/laws.FnExactReadNodeTable", spec := "fnExactReadNodeTable", unfollowed := true, recurses := true, apart := false, narrowed := true }
def FnExactReadNodeTableUptoSaid : Prop := fnExactReadNodeTableUptoRow.holds Try.pinned (OpenSpec.upto fnExactReadNodeTableSpec)

/-- 'laws.FnExactFindNode', WHERE WHAT IT READS IS OF BULK AT MOST 1048576: true; the input reads as it did. -/
def fnExactFindNodeUptoRow : OpenClaim := { program := "ytpghbbpidlfelaa", sum := "e3a0111d894d41ec2e00af348ef0e91f22b53a7e27d5300b5032a26df91e59d3", func := "loop.example/g00833/laws.FnExactFindNode", spec := "fnExactFindNode", unfollowed := true, recurses := true, apart := false, narrowed := true }
def FnExactFindNodeUptoSaid : Prop := fnExactFindNodeUptoRow.holds Try.pinned (OpenSpec.upto fnExactFindNodeSpec)

/-- 'laws.FnExactActiveVector', WHERE WHAT IT READS IS OF BULK AT MOST 1048576: true; the input reads as it did. -/
def fnExactActiveVectorUptoRow : OpenClaim := { program := "ytpghbbpidlfelaa", sum := "e3a0111d894d41ec2e00af348ef0e91f22b53a7e27d5300b5032a26df91e59d3", func := "loop.example/g00833/laws.FnExactActiveVector", spec := "fnExactActiveVector", unfollowed := true, recurses := true, apart := false, narrowed := true }
def FnExactActiveVectorUptoSaid : Prop := fnExactActiveVectorUptoRow.holds Try.pinned (OpenSpec.upto fnExactActiveVectorSpec)

/-- 'laws.FnExactWorstDrift', WHERE WHAT IT READS IS OF BULK AT MOST 1048576: true; the input reads as it did. -/
def fnExactWorstDriftUptoRow : OpenClaim := { program := "ytpghbbpidlfelaa", sum := "e3a0111d894d41ec2e00af348ef0e91f22b53a7e27d5300b5032a26df91e59d3", func := "loop.example/g00833/laws.FnExactWorstDrift", spec := "fnExactWorstDrift", unfollowed := true, recurses := true, apart := false, narrowed := true }
def FnExactWorstDriftUptoSaid : Prop := fnExactWorstDriftUptoRow.holds Try.pinned (OpenSpec.upto fnExactWorstDriftSpec)

end Rows
end Go.Proofs.Ytpghbbpidlfelaa
