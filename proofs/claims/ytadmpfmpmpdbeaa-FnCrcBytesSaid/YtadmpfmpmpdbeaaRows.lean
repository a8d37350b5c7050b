/-
  No cell of these rows narrows 'for every input' (looked for: loops, veiled, ifaces, maps, wideKeys, modest, calm, conditions, laid).
  DERIVED. THE GIVEN ROWS OF THIS SEAT. 13 by the template 'for every input the law returns true; each argument reads behind the call as it read before'; 0 by the template 'total and deterministic' (their statements: YtadmpfmpmpdbeaaTotals.lean).
  GIVEN WITH THE SEED: the statements are not yours to turn. If you find one false, say at which input.
  Laid BY PROGRAM, IN A SANDBOX (cutbox-rows.mjs): the forced cells as the released guide's own fill.sh prints them over the translation d9279c78be16e1a2… (all of the seat's roots in one cut). By AI agents, Wed Nov 11 2026. No macro, syntax, notation, axiom, sorry.
-/
import Derived.Test.YtadmpfmpmpdbeaaChecked
import GoSem.Claim
import GoSem.ClaimJoined
import GoSem.ClaimMapViews
import Derived.JoinedTies
import Derived.KernelRfl
namespace Go.Proofs.Ytadmpfmpmpdbeaa
/- THE CELL 'sum', in the pinned program and in every row, IS THE sha256 OF THE DUMP (.gsa) THAT YtadmpfmpmpdbeaaProg.lean LOADS. Nothing in Lean hashes anything: it is a label: what it is worth is what the hold of that sum in a sandbox is worth. -/
noncomputable def Try.pinned : Pinned := { name := "ytadmpfmpmpdbeaa", sum := "d9279c78be16e1a26e3db1a4afbccc451941879b9bccc3e284d4f7796debc27f", checked := Try.checked }
namespace Rows
def none {H : Type} : Left H := { results := [], args := [] }

/-- 'laws.FnCrcBytes': WHATEVER THE INPUT: true; the input reads as it did. -/
def fnCrcBytesSpec : ChangeSpec := { name := "fnCrcBytes", fn := fun _ => fun
  | [d] => { results := [.lit (.bool true)], args := [d] }
  | _ => none }
def fnCrcBytesRow : OpenClaim := { program := "ytadmpfmpmpdbeaa", sum := "d9279c78be16e1a26e3db1a4afbccc451941879b9bccc3e284d4f7796debc27f", func := "loop.example/g00833/laws.FnCrcBytes", spec := "fnCrcBytes", apart := false }
def FnCrcBytesSaid : Prop := fnCrcBytesRow.holds Try.pinned (OpenSpec.ofChange fnCrcBytesSpec)

/-- ITS FALSE NEIGHBOUR: 'it returns false'. Refute it at one input. -/
def fnCrcBytesWrong : ChangeSpec := { name := "fnCrcBytes", fn := fun _ => fun
  | [d] => { results := [.lit (.bool false)], args := [d] }
  | _ => none }
def FnCrcBytesWrongFalsely : Prop := fnCrcBytesRow.holds Try.pinned (OpenSpec.ofChange fnCrcBytesWrong)

/-- 'laws.FnCrcPrefix': WHATEVER THE INPUT: true; the input reads as it did. -/
def fnCrcPrefixSpec : ChangeSpec := { name := "fnCrcPrefix", fn := fun _ => fun
  | [d] => { results := [.lit (.bool true)], args := [d] }
  | _ => none }
def fnCrcPrefixRow : OpenClaim := { program := "ytadmpfmpmpdbeaa", sum := "d9279c78be16e1a26e3db1a4afbccc451941879b9bccc3e284d4f7796debc27f", func := "loop.example/g00833/laws.FnCrcPrefix", spec := "fnCrcPrefix", apart := false }
def FnCrcPrefixSaid : Prop := fnCrcPrefixRow.holds Try.pinned (OpenSpec.ofChange fnCrcPrefixSpec)

/-- ITS FALSE NEIGHBOUR: 'it returns false'. Refute it at one input. -/
def fnCrcPrefixWrong : ChangeSpec := { name := "fnCrcPrefix", fn := fun _ => fun
  | [d] => { results := [.lit (.bool false)], args := [d] }
  | _ => none }
def FnCrcPrefixWrongFalsely : Prop := fnCrcPrefixRow.holds Try.pinned (OpenSpec.ofChange fnCrcPrefixWrong)

/-- 'laws.FnCrcLinear': WHATEVER THE INPUT: true; the input reads as it did. -/
def fnCrcLinearSpec : ChangeSpec := { name := "fnCrcLinear", fn := fun _ => fun
  | [d] => { results := [.lit (.bool true)], args := [d] }
  | _ => none }
def fnCrcLinearRow : OpenClaim := { program := "ytadmpfmpmpdbeaa", sum := "d9279c78be16e1a26e3db1a4afbccc451941879b9bccc3e284d4f7796debc27f", func := "loop.example/g00833/laws.FnCrcLinear", spec := "fnCrcLinear", apart := false }
def FnCrcLinearSaid : Prop := fnCrcLinearRow.holds Try.pinned (OpenSpec.ofChange fnCrcLinearSpec)

/-- ITS FALSE NEIGHBOUR: 'it returns false'. Refute it at one input. -/
def fnCrcLinearWrong : ChangeSpec := { name := "fnCrcLinear", fn := fun _ => fun
  | [d] => { results := [.lit (.bool false)], args := [d] }
  | _ => none }
def FnCrcLinearWrongFalsely : Prop := fnCrcLinearRow.holds Try.pinned (OpenSpec.ofChange fnCrcLinearWrong)

/-- 'laws.FnCrcAppended': WHATEVER THE INPUT: true; the input reads as it did. -/
def fnCrcAppendedSpec : ChangeSpec := { name := "fnCrcAppended", fn := fun _ => fun
  | [d] => { results := [.lit (.bool true)], args := [d] }
  | _ => none }
def fnCrcAppendedRow : OpenClaim := { program := "ytadmpfmpmpdbeaa", sum := "d9279c78be16e1a26e3db1a4afbccc451941879b9bccc3e284d4f7796debc27f", func := "loop.example/g00833/laws.FnCrcAppended", spec := "fnCrcAppended", apart := false }
def FnCrcAppendedSaid : Prop := fnCrcAppendedRow.holds Try.pinned (OpenSpec.ofChange fnCrcAppendedSpec)

/-- ITS FALSE NEIGHBOUR: 'it returns false'. Refute it at one input. -/
def fnCrcAppendedWrong : ChangeSpec := { name := "fnCrcAppended", fn := fun _ => fun
  | [d] => { results := [.lit (.bool false)], args := [d] }
  | _ => none }
def FnCrcAppendedWrongFalsely : Prop := fnCrcAppendedRow.holds Try.pinned (OpenSpec.ofChange fnCrcAppendedWrong)

/-- 'laws.FnExactIsCrc': WHATEVER THE INPUT: true; the input reads as it did. -/
def fnExactIsCrcSpec : ChangeSpec := { name := "fnExactIsCrc", fn := fun _ => fun
  | [d] => { results := [.lit (.bool true)], args := [d] }
  | _ => none }
def fnExactIsCrcRow : OpenClaim := { program := "ytadmpfmpmpdbeaa", sum := "d9279c78be16e1a26e3db1a4afbccc451941879b9bccc3e284d4f7796debc27f", func := "loop.example/g00833/laws.FnExactIsCrc", spec := "fnExactIsCrc", apart := false }
def FnExactIsCrcSaid : Prop := fnExactIsCrcRow.holds Try.pinned (OpenSpec.ofChange fnExactIsCrcSpec)

/-- ITS FALSE NEIGHBOUR: 'it returns false'. Refute it at one input. -/
def fnExactIsCrcWrong : ChangeSpec := { name := "fnExactIsCrc", fn := fun _ => fun
  | [d] => { results := [.lit (.bool false)], args := [d] }
  | _ => none }
def FnExactIsCrcWrongFalsely : Prop := fnExactIsCrcRow.holds Try.pinned (OpenSpec.ofChange fnExactIsCrcWrong)

/-- 'laws.FnExactStandardCrc': WHATEVER THE INPUT: true; the input reads as it did. -/
def fnExactStandardCrcSpec : ChangeSpec := { name := "fnExactStandardCrc", fn := fun _ => fun
  | [] => { results := [.lit (.bool true)], args := [] }
  | _ => none }
def fnExactStandardCrcRow : OpenClaim := { program := "ytadmpfmpmpdbeaa", sum := "d9279c78be16e1a26e3db1a4afbccc451941879b9bccc3e284d4f7796debc27f", func := "loop.example/g00833/laws.FnExactStandardCrc", spec := "fnExactStandardCrc", apart := false }
def FnExactStandardCrcSaid : Prop := fnExactStandardCrcRow.holds Try.pinned (OpenSpec.ofChange fnExactStandardCrcSpec)

/-- ITS FALSE NEIGHBOUR: 'it returns false'. Refute it at one input. -/
def fnExactStandardCrcWrong : ChangeSpec := { name := "fnExactStandardCrc", fn := fun _ => fun
  | [] => { results := [.lit (.bool false)], args := [] }
  | _ => none }
def FnExactStandardCrcWrongFalsely : Prop := fnExactStandardCrcRow.holds Try.pinned (OpenSpec.ofChange fnExactStandardCrcWrong)

/-- 'laws.FnExactCrcOfBits': WHATEVER THE INPUT: true; the input reads as it did. -/
def fnExactCrcOfBitsSpec : ChangeSpec := { name := "fnExactCrcOfBits", fn := fun _ => fun
  | [d1, d2, d3] => { results := [.lit (.bool true)], args := [d1, d2, d3] }
  | _ => none }
def fnExactCrcOfBitsRow : OpenClaim := { program := "ytadmpfmpmpdbeaa", sum := "d9279c78be16e1a26e3db1a4afbccc451941879b9bccc3e284d4f7796debc27f", func := "loop.example/g00833/laws.FnExactCrcOfBits", spec := "fnExactCrcOfBits", apart := false }
def FnExactCrcOfBitsSaid : Prop := fnExactCrcOfBitsRow.holds Try.pinned (OpenSpec.ofChange fnExactCrcOfBitsSpec)

/-- ITS FALSE NEIGHBOUR: 'it returns false'. Refute it at one input. -/
def fnExactCrcOfBitsWrong : ChangeSpec := { name := "fnExactCrcOfBits", fn := fun _ => fun
  | [d1, d2, d3] => { results := [.lit (.bool false)], args := [d1, d2, d3] }
  | _ => none }
def FnExactCrcOfBitsWrongFalsely : Prop := fnExactCrcOfBitsRow.holds Try.pinned (OpenSpec.ofChange fnExactCrcOfBitsWrong)

/-- 'laws.FnExactCrcTable': WHATEVER THE INPUT: true; the input reads as it did. -/
def fnExactCrcTableSpec : ChangeSpec := { name := "fnExactCrcTable", fn := fun _ => fun
  | [d] => { results := [.lit (.bool true)], args := [d] }
  | _ => none }
def fnExactCrcTableRow : OpenClaim := { program := "ytadmpfmpmpdbeaa", sum := "d9279c78be16e1a26e3db1a4afbccc451941879b9bccc3e284d4f7796debc27f", func := "loop.example/g00833/laws.FnExactCrcTable", spec := "fnExactCrcTable", apart := false }
def FnExactCrcTableSaid : Prop := fnExactCrcTableRow.holds Try.pinned (OpenSpec.ofChange fnExactCrcTableSpec)

/-- ITS FALSE NEIGHBOUR: 'it returns false'. Refute it at one input. -/
def fnExactCrcTableWrong : ChangeSpec := { name := "fnExactCrcTable", fn := fun _ => fun
  | [d] => { results := [.lit (.bool false)], args := [d] }
  | _ => none }
def FnExactCrcTableWrongFalsely : Prop := fnExactCrcTableRow.holds Try.pinned (OpenSpec.ofChange fnExactCrcTableWrong)

/-- 'laws.FnExactCrcOfBytes': WHATEVER THE INPUT: true; the input reads as it did. -/
def fnExactCrcOfBytesSpec : ChangeSpec := { name := "fnExactCrcOfBytes", fn := fun _ => fun
  | [d1, d2, d3] => { results := [.lit (.bool true)], args := [d1, d2, d3] }
  | _ => none }
def fnExactCrcOfBytesRow : OpenClaim := { program := "ytadmpfmpmpdbeaa", sum := "d9279c78be16e1a26e3db1a4afbccc451941879b9bccc3e284d4f7796debc27f", func := "loop.example/g00833/laws.FnExactCrcOfBytes", spec := "fnExactCrcOfBytes", apart := false }
def FnExactCrcOfBytesSaid : Prop := fnExactCrcOfBytesRow.holds Try.pinned (OpenSpec.ofChange fnExactCrcOfBytesSpec)

/-- ITS FALSE NEIGHBOUR: 'it returns false'. Refute it at one input. -/
def fnExactCrcOfBytesWrong : ChangeSpec := { name := "fnExactCrcOfBytes", fn := fun _ => fun
  | [d1, d2, d3] => { results := [.lit (.bool false)], args := [d1, d2, d3] }
  | _ => none }
def FnExactCrcOfBytesWrongFalsely : Prop := fnExactCrcOfBytesRow.holds Try.pinned (OpenSpec.ofChange fnExactCrcOfBytesWrong)

/-- 'laws.FnExactSyndromeOf': WHATEVER THE INPUT: true; the input reads as it did. -/
def fnExactSyndromeOfSpec : ChangeSpec := { name := "fnExactSyndromeOf", fn := fun _ => fun
  | [d1, d2] => { results := [.lit (.bool true)], args := [d1, d2] }
  | _ => none }
def fnExactSyndromeOfRow : OpenClaim := { program := "ytadmpfmpmpdbeaa", sum := "d9279c78be16e1a26e3db1a4afbccc451941879b9bccc3e284d4f7796debc27f", func := "loop.example/g00833/laws.FnExactSyndromeOf", spec := "fnExactSyndromeOf", apart := false }
def FnExactSyndromeOfSaid : Prop := fnExactSyndromeOfRow.holds Try.pinned (OpenSpec.ofChange fnExactSyndromeOfSpec)

/-- ITS FALSE NEIGHBOUR: 'it returns false'. Refute it at one input. -/
def fnExactSyndromeOfWrong : ChangeSpec := { name := "fnExactSyndromeOf", fn := fun _ => fun
  | [d1, d2] => { results := [.lit (.bool false)], args := [d1, d2] }
  | _ => none }
def FnExactSyndromeOfWrongFalsely : Prop := fnExactSyndromeOfRow.holds Try.pinned (OpenSpec.ofChange fnExactSyndromeOfWrong)

/-- 'laws.FnExactAppendCrc': WHATEVER THE INPUT: true; the input reads as it did. -/
def fnExactAppendCrcSpec : ChangeSpec := { name := "fnExactAppendCrc", fn := fun _ => fun
  | [d1, d2, d3] => { results := [.lit (.bool true)], args := [d1, d2, d3] }
  | _ => none }
def fnExactAppendCrcRow : OpenClaim := { program := "ytadmpfmpmpdbeaa", sum := "d9279c78be16e1a26e3db1a4afbccc451941879b9bccc3e284d4f7796debc27f", func := "loop.example/g00833/laws.FnExactAppendCrc", spec := "fnExactAppendCrc", apart := false }
def FnExactAppendCrcSaid : Prop := fnExactAppendCrcRow.holds Try.pinned (OpenSpec.ofChange fnExactAppendCrcSpec)

/-- ITS FALSE NEIGHBOUR: 'it returns false'. Refute it at one input. -/
def fnExactAppendCrcWrong : ChangeSpec := { name := "fnExactAppendCrc", fn := fun _ => fun
  | [d1, d2, d3] => { results := [.lit (.bool false)], args := [d1, d2, d3] }
  | _ => none }
def FnExactAppendCrcWrongFalsely : Prop := fnExactAppendCrcRow.holds Try.pinned (OpenSpec.ofChange fnExactAppendCrcWrong)

/-- 'laws.FnExactHasCrc': WHATEVER THE INPUT: true; the input reads as it did. -/
def fnExactHasCrcSpec : ChangeSpec := { name := "fnExactHasCrc", fn := fun _ => fun
  | [d1, d2, d3] => { results := [.lit (.bool true)], args := [d1, d2, d3] }
  | _ => none }
def fnExactHasCrcRow : OpenClaim := { program := "ytadmpfmpmpdbeaa", sum := "d9279c78be16e1a26e3db1a4afbccc451941879b9bccc3e284d4f7796debc27f", func := "loop.example/g00833/laws.FnExactHasCrc", spec := "fnExactHasCrc", apart := false }
def FnExactHasCrcSaid : Prop := fnExactHasCrcRow.holds Try.pinned (OpenSpec.ofChange fnExactHasCrcSpec)

/-- ITS FALSE NEIGHBOUR: 'it returns false'. Refute it at one input. -/
def fnExactHasCrcWrong : ChangeSpec := { name := "fnExactHasCrc", fn := fun _ => fun
  | [d1, d2, d3] => { results := [.lit (.bool false)], args := [d1, d2, d3] }
  | _ => none }
def FnExactHasCrcWrongFalsely : Prop := fnExactHasCrcRow.holds Try.pinned (OpenSpec.ofChange fnExactHasCrcWrong)

/-- 'laws.FnExactSeedAfter': WHATEVER THE INPUT: true; the input reads as it did. -/
def fnExactSeedAfterSpec : ChangeSpec := { name := "fnExactSeedAfter", fn := fun _ => fun
  | [d1, d2, d3] => { results := [.lit (.bool true)], args := [d1, d2, d3] }
  | _ => none }
def fnExactSeedAfterRow : OpenClaim := { program := "ytadmpfmpmpdbeaa", sum := "d9279c78be16e1a26e3db1a4afbccc451941879b9bccc3e284d4f7796debc27f", func := "loop.example/g00833/laws.FnExactSeedAfter", spec := "fnExactSeedAfter", apart := false }
def FnExactSeedAfterSaid : Prop := fnExactSeedAfterRow.holds Try.pinned (OpenSpec.ofChange fnExactSeedAfterSpec)

/-- ITS FALSE NEIGHBOUR: 'it returns false'. Refute it at one input. -/
def fnExactSeedAfterWrong : ChangeSpec := { name := "fnExactSeedAfter", fn := fun _ => fun
  | [d1, d2, d3] => { results := [.lit (.bool false)], args := [d1, d2, d3] }
  | _ => none }
def FnExactSeedAfterWrongFalsely : Prop := fnExactSeedAfterRow.holds Try.pinned (OpenSpec.ofChange fnExactSeedAfterWrong)

/- THE SECOND FORM. 'bulk': how many values and letters a reading holds, each counted each time it is reached (what is shared counts as often as it is met; a slice's spare places count too). A statement '..UptoSaid' is the law's where the arguments, and the package variables that the reading takes, are together of bulk at most 1048576: NARROWER than '..Said'. Prove '..Said' where nothing that the law and all that it calls make is longer than what came in: it says more and counts as full. Else prove '..UptoSaid'. A law counts once. -/
mutual
def uptoBulk {H : Type} : DataW H → Nat
  | .lit (.string bytes) => bytes.length + 1
  | .lit _ => 1
  | .nil => 1
  | .ptr d => uptoBulk d + 1
  | .slice elems spare => uptoBulkAll elems + uptoBulkAll spare + 1
  | .agg parts => uptoBulkAll parts + 1
  | .iface _ d => uptoBulk d + 1
  | .map entries => uptoBulkEntries entries + 1
  | .held _ => 1
def uptoBulkAll {H : Type} : List (DataW H) → Nat
  | [] => 0
  | d :: r => uptoBulk d + uptoBulkAll r
def uptoBulkEntries {H : Type} : List (Lit × DataW H) → Nat
  | [] => 0
  | x :: r => uptoBulkEntry x + uptoBulkEntries r
def uptoBulkEntry {H : Type} : Lit × DataW H → Nat
  | (.string bytes, d) => bytes.length + uptoBulk d + 1
  | (_, d) => uptoBulk d + 1
 end
def uptoSmall : (H : Type) → List (DataW H) → Bool := fun _ ds => decide (uptoBulkAll ds ≤ 1048576)
def OpenSpec.upto (s : _root_.Go.ChangeSpec) : _root_.Go.OpenSpec := { _root_.Go.OpenSpec.ofChange s with cond := some uptoSmall }

/-- 'laws.FnCrcBytes', WHERE WHAT IT READS IS OF BULK AT MOST 1048576: true; the input reads as it did. -/
def fnCrcBytesUptoRow : OpenClaim := { program := "ytadmpfmpmpdbeaa", sum := "d9279c78be16e1a26e3db1a4afbccc451941879b9bccc3e284d4f7796debc27f", func := "loop.example/g00833/laws.FnCrcBytes", spec := "fnCrcBytes", apart := false, narrowed := true }
def FnCrcBytesUptoSaid : Prop := fnCrcBytesUptoRow.holds Try.pinned (OpenSpec.upto fnCrcBytesSpec)

/-- 'laws.FnCrcPrefix', WHERE WHAT IT READS IS OF BULK AT MOST 1048576: true; the input reads as it did. -/
def fnCrcPrefixUptoRow : OpenClaim := { program := "ytadmpfmpmpdbeaa", sum := "d9279c78be16e1a26e3db1a4afbccc451941879b9bccc3e284d4f7796debc27f", func := "loop.example/g00833/laws.FnCrcPrefix", spec := "fnCrcPrefix", apart := false, narrowed := true }
def FnCrcPrefixUptoSaid : Prop := fnCrcPrefixUptoRow.holds Try.pinned (OpenSpec.upto fnCrcPrefixSpec)

/-- 'laws.FnCrcLinear', WHERE WHAT IT READS IS OF BULK AT MOST 1048576: true; the input reads as it did. -/
def fnCrcLinearUptoRow : OpenClaim := { program := "ytadmpfmpmpdbeaa", sum := "d9279c78be16e1a26e3db1a4afbccc451941879b9bccc3e284d4f7796debc27f", func := "loop.example/g00833/laws.FnCrcLinear", spec := "fnCrcLinear", apart := false, narrowed := true }
def FnCrcLinearUptoSaid : Prop := fnCrcLinearUptoRow.holds Try.pinned (OpenSpec.upto fnCrcLinearSpec)

/-- 'laws.FnCrcAppended', WHERE WHAT IT READS IS OF BULK AT MOST 1048576: true; the input reads as it did. -/
def fnCrcAppendedUptoRow : OpenClaim := { program := "ytadmpfmpmpdbeaa", sum := "d9279c78be16e1a26e3db1a4afbccc451941879b9bccc3e284d4f7796debc27f", func := "loop.example/g00833/laws.FnCrcAppended", spec := "fnCrcAppended", apart := false, narrowed := true }
def FnCrcAppendedUptoSaid : Prop := fnCrcAppendedUptoRow.holds Try.pinned (OpenSpec.upto fnCrcAppendedSpec)

/-- 'laws.FnExactIsCrc', WHERE WHAT IT READS IS OF BULK AT MOST 1048576: true; the input reads as it did. -/
def fnExactIsCrcUptoRow : OpenClaim := { program := "ytadmpfmpmpdbeaa", sum := "d9279c78be16e1a26e3db1a4afbccc451941879b9bccc3e284d4f7796debc27f", func := "loop.example/g00833/laws.FnExactIsCrc", spec := "fnExactIsCrc", apart := false, narrowed := true }
def FnExactIsCrcUptoSaid : Prop := fnExactIsCrcUptoRow.holds Try.pinned (OpenSpec.upto fnExactIsCrcSpec)

/-- 'laws.FnExactStandardCrc', WHERE WHAT IT READS IS OF BULK AT MOST 1048576: true; the input reads as it did. -/
def fnExactStandardCrcUptoRow : OpenClaim := { program := "ytadmpfmpmpdbeaa", sum := "d9279c78be16e1a26e3db1a4afbccc451941879b9bccc3e284d4f7796debc27f", func := "loop.example/g00833/laws.FnExactStandardCrc", spec := "fnExactStandardCrc", apart := false, narrowed := true }
def FnExactStandardCrcUptoSaid : Prop := fnExactStandardCrcUptoRow.holds Try.pinned (OpenSpec.upto fnExactStandardCrcSpec)

/-- 'laws.FnExactCrcOfBits', WHERE WHAT IT READS IS OF BULK AT MOST 1048576: true; the input reads as it did. -/
def fnExactCrcOfBitsUptoRow : OpenClaim := { program := "ytadmpfmpmpdbeaa", sum := "d9279c78be16e1a26e3db1a4afbccc451941879b9bccc3e284d4f7796debc27f", func := "loop.example/g00833/laws.FnExactCrcOfBits", spec := "fnExactCrcOfBits", apart := false, narrowed := true }
def FnExactCrcOfBitsUptoSaid : Prop := fnExactCrcOfBitsUptoRow.holds Try.pinned (OpenSpec.upto fnExactCrcOfBitsSpec)

/-- 'laws.FnExactCrcTable', WHERE WHAT IT READS IS OF BULK AT MOST 1048576: true; the input reads as it did. -/
def fnExactCrcTableUptoRow : OpenClaim := { program := "ytadmpfmpmpdbeaa", sum := "d9279c78be16e1a26e3db1a4afbccc451941879b9bccc3e284d4f7796debc27f", func := "loop.example/g00833/laws.FnExactCrcTable", spec := "fnExactCrcTable", apart := false, narrowed := true }
def FnExactCrcTableUptoSaid : Prop := fnExactCrcTableUptoRow.holds Try.pinned (OpenSpec.upto fnExactCrcTableSpec)

/-- 'laws.FnExactCrcOfBytes', WHERE WHAT IT READS IS OF BULK AT MOST 1048576: true; the input reads as it did. -/
def fnExactCrcOfBytesUptoRow : OpenClaim := { program := "ytadmpfmpmpdbeaa", sum := "d9279c78be16e1a26e3db1a4afbccc451941879b9bccc3e284d4f7796debc27f", func := "loop.example/g00833/laws.FnExactCrcOfBytes", spec := "fnExactCrcOfBytes", apart := false, narrowed := true }
def FnExactCrcOfBytesUptoSaid : Prop := fnExactCrcOfBytesUptoRow.holds Try.pinned (OpenSpec.upto fnExactCrcOfBytesSpec)

/-- 'laws.FnExactSyndromeOf', WHERE WHAT IT READS IS OF BULK AT MOST 1048576: true; the input reads as it did. -/
def fnExactSyndromeOfUptoRow : OpenClaim := { program := "ytadmpfmpmpdbeaa", sum := "d9279c78be16e1a26e3db1a4afbccc451941879b9bccc3e284d4f7796debc27f", func := "loop.example/g00833/laws.FnExactSyndromeOf", spec := "fnExactSyndromeOf", apart := false, narrowed := true }
def FnExactSyndromeOfUptoSaid : Prop := fnExactSyndromeOfUptoRow.holds Try.pinned (OpenSpec.upto fnExactSyndromeOfSpec)

/-- 'laws.FnExactAppendCrc', WHERE WHAT IT READS IS OF BULK AT MOST 1048576: true; the input reads as it did. -/
def fnExactAppendCrcUptoRow : OpenClaim := { program := "ytadmpfmpmpdbeaa", sum := "d9279c78be16e1a26e3db1a4afbccc451941879b9bccc3e284d4f7796debc27f", func := "loop.example/g00833/laws.FnExactAppendCrc", spec := "fnExactAppendCrc", apart := false, narrowed := true }
def FnExactAppendCrcUptoSaid : Prop := fnExactAppendCrcUptoRow.holds Try.pinned (OpenSpec.upto fnExactAppendCrcSpec)

/-- 'laws.FnExactHasCrc', WHERE WHAT IT READS IS OF BULK AT MOST 1048576: true; the input reads as it did. -/
def fnExactHasCrcUptoRow : OpenClaim := { program := "ytadmpfmpmpdbeaa", sum := "d9279c78be16e1a26e3db1a4afbccc451941879b9bccc3e284d4f7796debc27f", func := "loop.example/g00833/laws.FnExactHasCrc", spec := "fnExactHasCrc", apart := false, narrowed := true }
def FnExactHasCrcUptoSaid : Prop := fnExactHasCrcUptoRow.holds Try.pinned (OpenSpec.upto fnExactHasCrcSpec)

/-- 'laws.FnExactSeedAfter', WHERE WHAT IT READS IS OF BULK AT MOST 1048576: true; the input reads as it did. -/
def fnExactSeedAfterUptoRow : OpenClaim := { program := "ytadmpfmpmpdbeaa", sum := "d9279c78be16e1a26e3db1a4afbccc451941879b9bccc3e284d4f7796debc27f", func := "loop.example/g00833/laws.FnExactSeedAfter", spec := "fnExactSeedAfter", apart := false, narrowed := true }
def FnExactSeedAfterUptoSaid : Prop := fnExactSeedAfterUptoRow.holds Try.pinned (OpenSpec.upto fnExactSeedAfterSpec)

end Rows
end Go.Proofs.Ytadmpfmpmpdbeaa
