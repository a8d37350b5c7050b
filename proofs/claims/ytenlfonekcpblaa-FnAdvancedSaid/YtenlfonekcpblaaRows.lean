/-
  No cell of these rows narrows 'for every input' (looked for: loops, veiled, ifaces, maps, wideKeys, modest, calm, conditions, laid).
  DERIVED. THE GIVEN ROWS OF THIS SEAT. 8 by the template 'for every input the law returns true; each argument reads behind the call as it read before'; 0 by the template 'total and deterministic' (their statements: YtenlfonekcpblaaTotals.lean).
  GIVEN WITH THE SEED: the statements are not yours to turn. If you find one false, say at which input.
  Laid BY PROGRAM, IN A SANDBOX (cutbox-rows.mjs): the forced cells as the released guide's own fill.sh prints them over the translation 82efd00b78e1a7c1… (all of the seat's roots in one cut). By AI agents, Wed Nov 11 2026. No macro, syntax, notation, axiom, sorry.
-/
import Derived.Test.YtenlfonekcpblaaChecked
import GoSem.Claim
import GoSem.ClaimJoined
import GoSem.ClaimMapViews
import Derived.JoinedTies
import Derived.KernelRfl
namespace Go.Proofs.Ytenlfonekcpblaa
/- THE CELL 'sum', in the pinned program and in every row, IS THE sha256 OF THE DUMP (.gsa) THAT YtenlfonekcpblaaProg.lean LOADS. Nothing in Lean hashes anything: it is a label: what it is worth is what the hold of that sum in a sandbox is worth. -/
noncomputable def Try.pinned : Pinned := { name := "ytenlfonekcpblaa", sum := "82efd00b78e1a7c16db699bd0d91a247211b47b011a823655c9d046742fb7d4f", checked := Try.checked }
namespace Rows
def none {H : Type} : Left H := { results := [], args := [] }

/-- 'laws.FnAdvanced': WHATEVER THE INPUT: true; the input reads as it did. -/
def fnAdvancedSpec : ChangeSpec := { name := "fnAdvanced", fn := fun _ => fun
  | [d] => { results := [.lit (.bool true)], args := [d] }
  | _ => none }
def fnAdvancedRow : OpenClaim := { program := "ytenlfonekcpblaa", sum := "82efd00b78e1a7c16db699bd0d91a247211b47b011a823655c9d046742fb7d4f", func := "loop.example/g00833/laws.FnAdvanced", spec := "fnAdvanced", apart := false }
def FnAdvancedSaid : Prop := fnAdvancedRow.holds Try.pinned (OpenSpec.ofChange fnAdvancedSpec)

/-- ITS FALSE NEIGHBOUR: 'it returns false'. Refute it at one input. -/
def fnAdvancedWrong : ChangeSpec := { name := "fnAdvanced", fn := fun _ => fun
  | [d] => { results := [.lit (.bool false)], args := [d] }
  | _ => none }
def FnAdvancedWrongFalsely : Prop := fnAdvancedRow.holds Try.pinned (OpenSpec.ofChange fnAdvancedWrong)

/-- 'laws.FnStateDistances': WHATEVER THE INPUT: true; the input reads as it did. -/
def fnStateDistancesSpec : ChangeSpec := { name := "fnStateDistances", fn := fun _ => fun
  | [d] => { results := [.lit (.bool true)], args := [d] }
  | _ => none }
def fnStateDistancesRow : OpenClaim := { program := "ytenlfonekcpblaa", sum := "82efd00b78e1a7c16db699bd0d91a247211b47b011a823655c9d046742fb7d4f", func := "loop.example/g00833/laws.FnStateDistances", spec := "fnStateDistances", apart := false }
def FnStateDistancesSaid : Prop := fnStateDistancesRow.holds Try.pinned (OpenSpec.ofChange fnStateDistancesSpec)

/-- ITS FALSE NEIGHBOUR: 'it returns false'. Refute it at one input. -/
def fnStateDistancesWrong : ChangeSpec := { name := "fnStateDistances", fn := fun _ => fun
  | [d] => { results := [.lit (.bool false)], args := [d] }
  | _ => none }
def FnStateDistancesWrongFalsely : Prop := fnStateDistancesRow.holds Try.pinned (OpenSpec.ofChange fnStateDistancesWrong)

/-- 'laws.FnExactIsState': WHATEVER THE INPUT: true; the input reads as it did. -/
def fnExactIsStateSpec : ChangeSpec := { name := "fnExactIsState", fn := fun _ => fun
  | [d] => { results := [.lit (.bool true)], args := [d] }
  | _ => none }
def fnExactIsStateRow : OpenClaim := { program := "ytenlfonekcpblaa", sum := "82efd00b78e1a7c16db699bd0d91a247211b47b011a823655c9d046742fb7d4f", func := "loop.example/g00833/laws.FnExactIsState", spec := "fnExactIsState", apart := false }
def FnExactIsStateSaid : Prop := fnExactIsStateRow.holds Try.pinned (OpenSpec.ofChange fnExactIsStateSpec)

/-- ITS FALSE NEIGHBOUR: 'it returns false'. Refute it at one input. -/
def fnExactIsStateWrong : ChangeSpec := { name := "fnExactIsState", fn := fun _ => fun
  | [d] => { results := [.lit (.bool false)], args := [d] }
  | _ => none }
def FnExactIsStateWrongFalsely : Prop := fnExactIsStateRow.holds Try.pinned (OpenSpec.ofChange fnExactIsStateWrong)

/-- 'laws.FnExactStateToBits': WHATEVER THE INPUT: true; the input reads as it did. -/
def fnExactStateToBitsSpec : ChangeSpec := { name := "fnExactStateToBits", fn := fun _ => fun
  | [d] => { results := [.lit (.bool true)], args := [d] }
  | _ => none }
def fnExactStateToBitsRow : OpenClaim := { program := "ytenlfonekcpblaa", sum := "82efd00b78e1a7c16db699bd0d91a247211b47b011a823655c9d046742fb7d4f", func := "loop.example/g00833/laws.FnExactStateToBits", spec := "fnExactStateToBits", apart := false }
def FnExactStateToBitsSaid : Prop := fnExactStateToBitsRow.holds Try.pinned (OpenSpec.ofChange fnExactStateToBitsSpec)

/-- ITS FALSE NEIGHBOUR: 'it returns false'. Refute it at one input. -/
def fnExactStateToBitsWrong : ChangeSpec := { name := "fnExactStateToBits", fn := fun _ => fun
  | [d] => { results := [.lit (.bool false)], args := [d] }
  | _ => none }
def FnExactStateToBitsWrongFalsely : Prop := fnExactStateToBitsRow.holds Try.pinned (OpenSpec.ofChange fnExactStateToBitsWrong)

/-- 'laws.FnExactStateFromBits': WHATEVER THE INPUT: true; the input reads as it did. -/
def fnExactStateFromBitsSpec : ChangeSpec := { name := "fnExactStateFromBits", fn := fun _ => fun
  | [d] => { results := [.lit (.bool true)], args := [d] }
  | _ => none }
def fnExactStateFromBitsRow : OpenClaim := { program := "ytenlfonekcpblaa", sum := "82efd00b78e1a7c16db699bd0d91a247211b47b011a823655c9d046742fb7d4f", func := "loop.example/g00833/laws.FnExactStateFromBits", spec := "fnExactStateFromBits", apart := false }
def FnExactStateFromBitsSaid : Prop := fnExactStateFromBitsRow.holds Try.pinned (OpenSpec.ofChange fnExactStateFromBitsSpec)

/-- ITS FALSE NEIGHBOUR: 'it returns false'. Refute it at one input. -/
def fnExactStateFromBitsWrong : ChangeSpec := { name := "fnExactStateFromBits", fn := fun _ => fun
  | [d] => { results := [.lit (.bool false)], args := [d] }
  | _ => none }
def FnExactStateFromBitsWrongFalsely : Prop := fnExactStateFromBitsRow.holds Try.pinned (OpenSpec.ofChange fnExactStateFromBitsWrong)

/-- 'laws.FnExactAdvanceState': WHATEVER THE INPUT: true; the input reads as it did. -/
def fnExactAdvanceStateSpec : ChangeSpec := { name := "fnExactAdvanceState", fn := fun _ => fun
  | [d1, d2, d3, d4] => { results := [.lit (.bool true)], args := [d1, d2, d3, d4] }
  | _ => none }
def fnExactAdvanceStateRow : OpenClaim := { program := "ytenlfonekcpblaa", sum := "82efd00b78e1a7c16db699bd0d91a247211b47b011a823655c9d046742fb7d4f", func := "loop.example/g00833/laws.FnExactAdvanceState", spec := "fnExactAdvanceState", apart := false }
def FnExactAdvanceStateSaid : Prop := fnExactAdvanceStateRow.holds Try.pinned (OpenSpec.ofChange fnExactAdvanceStateSpec)

/-- ITS FALSE NEIGHBOUR: 'it returns false'. Refute it at one input. -/
def fnExactAdvanceStateWrong : ChangeSpec := { name := "fnExactAdvanceState", fn := fun _ => fun
  | [d1, d2, d3, d4] => { results := [.lit (.bool false)], args := [d1, d2, d3, d4] }
  | _ => none }
def FnExactAdvanceStateWrongFalsely : Prop := fnExactAdvanceStateRow.holds Try.pinned (OpenSpec.ofChange fnExactAdvanceStateWrong)

/-- 'laws.FnExactStateDistance': WHATEVER THE INPUT: true; the input reads as it did. -/
def fnExactStateDistanceSpec : ChangeSpec := { name := "fnExactStateDistance", fn := fun _ => fun
  | [d1, d2] => { results := [.lit (.bool true)], args := [d1, d2] }
  | _ => none }
def fnExactStateDistanceRow : OpenClaim := { program := "ytenlfonekcpblaa", sum := "82efd00b78e1a7c16db699bd0d91a247211b47b011a823655c9d046742fb7d4f", func := "loop.example/g00833/laws.FnExactStateDistance", spec := "fnExactStateDistance", apart := false }
def FnExactStateDistanceSaid : Prop := fnExactStateDistanceRow.holds Try.pinned (OpenSpec.ofChange fnExactStateDistanceSpec)

/-- ITS FALSE NEIGHBOUR: 'it returns false'. Refute it at one input. -/
def fnExactStateDistanceWrong : ChangeSpec := { name := "fnExactStateDistance", fn := fun _ => fun
  | [d1, d2] => { results := [.lit (.bool false)], args := [d1, d2] }
  | _ => none }
def FnExactStateDistanceWrongFalsely : Prop := fnExactStateDistanceRow.holds Try.pinned (OpenSpec.ofChange fnExactStateDistanceWrong)

/-- 'laws.FnExactTimeBetween': WHATEVER THE INPUT: true; the input reads as it did. -/
def fnExactTimeBetweenSpec : ChangeSpec := { name := "fnExactTimeBetween", fn := fun _ => fun
  | [d1, d2] => { results := [.lit (.bool true)], args := [d1, d2] }
  | _ => none }
def fnExactTimeBetweenRow : OpenClaim := { program := "ytenlfonekcpblaa", sum := "82efd00b78e1a7c16db699bd0d91a247211b47b011a823655c9d046742fb7d4f", func := "loop.example/g00833/laws.FnExactTimeBetween", spec := "fnExactTimeBetween", apart := false }
def FnExactTimeBetweenSaid : Prop := fnExactTimeBetweenRow.holds Try.pinned (OpenSpec.ofChange fnExactTimeBetweenSpec)

/-- ITS FALSE NEIGHBOUR: 'it returns false'. Refute it at one input. -/
def fnExactTimeBetweenWrong : ChangeSpec := { name := "fnExactTimeBetween", fn := fun _ => fun
  | [d1, d2] => { results := [.lit (.bool false)], args := [d1, d2] }
  | _ => none }
def FnExactTimeBetweenWrongFalsely : Prop := fnExactTimeBetweenRow.holds Try.pinned (OpenSpec.ofChange fnExactTimeBetweenWrong)

/- THE SECOND FORM. 'bulk': how many values and letters a reading holds, each counted each time it is reached (what is shared counts as often as it is met; a slice's spare places count too). A statement '..UptoSaid' is the law's where the arguments, and the package variables that the reading takes, are together of bulk at most 1048576: NARROWER than '..Said'. Prove '..Said' where nothing that the law and all that it calls make is longer than what came in: it says more and counts as full. Else prove '..UptoSaid'. A law counts once. -/
mutual
def uptoBulk {H : Type} : DataW H → Nat
  | .lit (.string bytes) => bytes.length + 1
  | .lit _ => 1
  | .nil => 1
  | .ptr d => uptoBulk d + 1
  | .slice elems spare => uptoBulkAll elems + uptoBulkAll spare + 1
  | .agg parts => uptoBulkAll parts + 1
  | .iface _ d => uptoBulk d + 1
  | .map entries => uptoBulkEntries entries + 1
  | .held _ => 1
def uptoBulkAll {H : Type} : List (DataW H) → Nat
  | [] => 0
  | d :: r => uptoBulk d + uptoBulkAll r
def uptoBulkEntries {H : Type} : List (Lit × DataW H) → Nat
  | [] => 0
  | x :: r => uptoBulkEntry x + uptoBulkEntries r
def uptoBulkEntry {H : Type} : Lit × DataW H → Nat
  | (.string bytes, d) => bytes.length + uptoBulk d + 1
  | (_, d) => uptoBulk d + 1
 end
def uptoSmall : (H : Type) → List (DataW H) → Bool := fun _ ds => decide (uptoBulkAll ds ≤ 1048576)
def OpenSpec.upto (s : _root_.Go.ChangeSpec) : _root_.Go.OpenSpec := { _root_.Go.OpenSpec.ofChange s with cond := some uptoSmall }

/-- 'laws.FnAdvanced', WHERE WHAT IT READS IS OF BULK AT MOST 1048576: true; the input reads as it did. -/
def fnAdvancedUptoRow : OpenClaim := { program := "ytenlfonekcpblaa", sum := "82efd00b78e1a7c16db699bd0d91a247211b47b011a823655c9d046742fb7d4f", func := "loop.example/g00833/laws.FnAdvanced", spec := "fnAdvanced", apart := false, narrowed := true }
def FnAdvancedUptoSaid : Prop := fnAdvancedUptoRow.holds Try.pinned (OpenSpec.upto fnAdvancedSpec)

/-- 'laws.FnStateDistances', WHERE WHAT IT READS IS OF BULK AT MOST 1048576: true; the input reads as it did. -/
def fnStateDistancesUptoRow : OpenClaim := { program := "ytenlfonekcpblaa", sum := "82efd00b78e1a7c16db699bd0d91a247211b47b011a823655c9d046742fb7d4f", func := "loop.example/g00833/laws.FnStateDistances", spec := "fnStateDistances", apart := false, narrowed := true }
def FnStateDistancesUptoSaid : Prop := fnStateDistancesUptoRow.holds Try.pinned (OpenSpec.upto fnStateDistancesSpec)

/-- 'laws.FnExactIsState', WHERE WHAT IT READS IS OF BULK AT MOST 1048576: true; the input reads as it did. -/
def fnExactIsStateUptoRow : OpenClaim := { program := "ytenlfonekcpblaa", sum := "82efd00b78e1a7c16db699bd0d91a247211b47b011a823655c9d046742fb7d4f", func := "loop.example/g00833/laws.FnExactIsState", spec := "fnExactIsState", apart := false, narrowed := true }
def FnExactIsStateUptoSaid : Prop := fnExactIsStateUptoRow.holds Try.pinned (OpenSpec.upto fnExactIsStateSpec)

/-- 'laws.FnExactStateToBits', WHERE WHAT IT READS IS OF BULK AT MOST 1048576: true; the input reads as it did. -/
def fnExactStateToBitsUptoRow : OpenClaim := { program := "ytenlfonekcpblaa", sum := "82efd00b78e1a7c16db699bd0d91a247211b47b011a823655c9d046742fb7d4f", func := "loop.example/g00833/laws.FnExactStateToBits", spec := "fnExactStateToBits", apart := false, narrowed := true }
def FnExactStateToBitsUptoSaid : Prop := fnExactStateToBitsUptoRow.holds Try.pinned (OpenSpec.upto fnExactStateToBitsSpec)

/-- 'laws.FnExactStateFromBits', WHERE WHAT IT READS IS OF BULK AT MOST 1048576: true; the input reads as it did. -/
def fnExactStateFromBitsUptoRow : OpenClaim := { program := "ytenlfonekcpblaa", sum := "82efd00b78e1a7c16db699bd0d91a247211b47b011a823655c9d046742fb7d4f", func := "loop.example/g00833/laws.FnExactStateFromBits", spec := "fnExactStateFromBits", apart := false, narrowed := true }
def FnExactStateFromBitsUptoSaid : Prop := fnExactStateFromBitsUptoRow.holds Try.pinned (OpenSpec.upto fnExactStateFromBitsSpec)

/-- 'laws.FnExactAdvanceState', WHERE WHAT IT READS IS OF BULK AT MOST 1048576: true; the input reads as it did. -/
def fnExactAdvanceStateUptoRow : OpenClaim := { program := "ytenlfonekcpblaa", sum := "82efd00b78e1a7c16db699bd0d91a247211b47b011a823655c9d046742fb7d4f", func := "loop.example/g00833/laws.FnExactAdvanceState", spec := "fnExactAdvanceState", apart := false, narrowed := true }
def FnExactAdvanceStateUptoSaid : Prop := fnExactAdvanceStateUptoRow.holds Try.pinned (OpenSpec.upto fnExactAdvanceStateSpec)

/-- 'laws.FnExactStateDistance', WHERE WHAT IT READS IS OF BULK AT MOST 1048576: true; the input reads as it did. -/
def fnExactStateDistanceUptoRow : OpenClaim := { program := "ytenlfonekcpblaa", sum := "82efd00b78e1a7c16db699bd0d91a247211b47b011a823655c9d046742fb7d4f", func := "loop.example/g00833/laws.FnExactStateDistance", spec := "fnExactStateDistance", apart := false, narrowed := true }
def FnExactStateDistanceUptoSaid : Prop := fnExactStateDistanceUptoRow.holds Try.pinned (OpenSpec.upto fnExactStateDistanceSpec)

/-- 'laws.FnExactTimeBetween', WHERE WHAT IT READS IS OF BULK AT MOST 1048576: true; the input reads as it did. -/
def fnExactTimeBetweenUptoRow : OpenClaim := { program := "ytenlfonekcpblaa", sum := "82efd00b78e1a7c16db699bd0d91a247211b47b011a823655c9d046742fb7d4f", func := "loop.example/g00833/laws.FnExactTimeBetween", spec := "fnExactTimeBetween", apart := false, narrowed := true }
def FnExactTimeBetweenUptoSaid : Prop := fnExactTimeBetweenUptoRow.holds Try.pinned (OpenSpec.upto fnExactTimeBetweenSpec)

end Rows
end Go.Proofs.Ytenlfonekcpblaa
