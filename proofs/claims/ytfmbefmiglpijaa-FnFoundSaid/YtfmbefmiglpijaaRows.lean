/-
  No cell of these rows narrows 'for every input' (looked for: loops, veiled, ifaces, maps, wideKeys, modest, calm, conditions, laid).
  DERIVED. THE GIVEN ROWS OF THIS SEAT. 11 by the template 'for every input the law returns true; each argument reads behind the call as it read before'; 0 by the template 'total and deterministic' (their statements: YtfmbefmiglpijaaTotals.lean).
  GIVEN WITH THE SEED: the statements are not yours to turn. If you find one false, say at which input.
  Laid BY PROGRAM, IN A SANDBOX (cutbox-rows.mjs): the forced cells as the released guide's own fill.sh prints them over the translation 6f9f0119e2a92049… (all of the seat's roots in one cut). By AI agents, Wed Nov 11 2026. No macro, syntax, notation, axiom, sorry.
-/
import Derived.Test.YtfmbefmiglpijaaChecked
import GoSem.Claim
import GoSem.ClaimJoined
import GoSem.ClaimMapViews
import Derived.JoinedTies
import Derived.KernelRfl
namespace Go.Proofs.Ytfmbefmiglpijaa
/- THE CELL 'sum', in the pinned program and in every row, IS THE sha256 OF THE DUMP (.gsa) THAT YtfmbefmiglpijaaProg.lean LOADS. Nothing in Lean hashes anything: it is a label: what it is worth is what the hold of that sum in a sandbox is worth. -/
noncomputable def Try.pinned : Pinned := { name := "ytfmbefmiglpijaa", sum := "6f9f0119e2a920498ade32de61322af507183b808f5633711dcb1527989a464d", checked := Try.checked }
namespace Rows
def none {H : Type} : Left H := { results := [], args := [] }

/-- 'laws.FnFound': WHATEVER THE INPUT: true; the input reads as it did. -/
def fnFoundSpec : ChangeSpec := { name := "fnFound", fn := fun _ => fun
  | [d] => { results := [.lit (.bool true)], args := [d] }
  | _ => none }
def fnFoundRow : OpenClaim := { program := "ytfmbefmiglpijaa", sum := "6f9f0119e2a920498ade32de61322af507183b808f5633711dcb1527989a464d", func := "loop.example/g00833/laws.FnFound", spec := "fnFound", apart := false }
def FnFoundSaid : Prop := fnFoundRow.holds Try.pinned (OpenSpec.ofChange fnFoundSpec)

/-- ITS FALSE NEIGHBOUR: 'it returns false'. Refute it at one input. -/
def fnFoundWrong : ChangeSpec := { name := "fnFound", fn := fun _ => fun
  | [d] => { results := [.lit (.bool false)], args := [d] }
  | _ => none }
def FnFoundWrongFalsely : Prop := fnFoundRow.holds Try.pinned (OpenSpec.ofChange fnFoundWrong)

/-- 'laws.FnLeastMissed': WHATEVER THE INPUT: true; the input reads as it did. -/
def fnLeastMissedSpec : ChangeSpec := { name := "fnLeastMissed", fn := fun _ => fun
  | [d] => { results := [.lit (.bool true)], args := [d] }
  | _ => none }
def fnLeastMissedRow : OpenClaim := { program := "ytfmbefmiglpijaa", sum := "6f9f0119e2a920498ade32de61322af507183b808f5633711dcb1527989a464d", func := "loop.example/g00833/laws.FnLeastMissed", spec := "fnLeastMissed", apart := false }
def FnLeastMissedSaid : Prop := fnLeastMissedRow.holds Try.pinned (OpenSpec.ofChange fnLeastMissedSpec)

/-- ITS FALSE NEIGHBOUR: 'it returns false'. Refute it at one input. -/
def fnLeastMissedWrong : ChangeSpec := { name := "fnLeastMissed", fn := fun _ => fun
  | [d] => { results := [.lit (.bool false)], args := [d] }
  | _ => none }
def FnLeastMissedWrongFalsely : Prop := fnLeastMissedRow.holds Try.pinned (OpenSpec.ofChange fnLeastMissedWrong)

/-- 'laws.FnOrders': WHATEVER THE INPUT: true; the input reads as it did. -/
def fnOrdersSpec : ChangeSpec := { name := "fnOrders", fn := fun _ => fun
  | [d] => { results := [.lit (.bool true)], args := [d] }
  | _ => none }
def fnOrdersRow : OpenClaim := { program := "ytfmbefmiglpijaa", sum := "6f9f0119e2a920498ade32de61322af507183b808f5633711dcb1527989a464d", func := "loop.example/g00833/laws.FnOrders", spec := "fnOrders", apart := false }
def FnOrdersSaid : Prop := fnOrdersRow.holds Try.pinned (OpenSpec.ofChange fnOrdersSpec)

/-- ITS FALSE NEIGHBOUR: 'it returns false'. Refute it at one input. -/
def fnOrdersWrong : ChangeSpec := { name := "fnOrders", fn := fun _ => fun
  | [d] => { results := [.lit (.bool false)], args := [d] }
  | _ => none }
def FnOrdersWrongFalsely : Prop := fnOrdersRow.holds Try.pinned (OpenSpec.ofChange fnOrdersWrong)

/-- 'laws.FnBursts': WHATEVER THE INPUT: true; the input reads as it did. -/
def fnBurstsSpec : ChangeSpec := { name := "fnBursts", fn := fun _ => fun
  | [d] => { results := [.lit (.bool true)], args := [d] }
  | _ => none }
def fnBurstsRow : OpenClaim := { program := "ytfmbefmiglpijaa", sum := "6f9f0119e2a920498ade32de61322af507183b808f5633711dcb1527989a464d", func := "loop.example/g00833/laws.FnBursts", spec := "fnBursts", apart := false }
def FnBurstsSaid : Prop := fnBurstsRow.holds Try.pinned (OpenSpec.ofChange fnBurstsSpec)

/-- ITS FALSE NEIGHBOUR: 'it returns false'. Refute it at one input. -/
def fnBurstsWrong : ChangeSpec := { name := "fnBursts", fn := fun _ => fun
  | [d] => { results := [.lit (.bool false)], args := [d] }
  | _ => none }
def FnBurstsWrongFalsely : Prop := fnBurstsRow.holds Try.pinned (OpenSpec.ofChange fnBurstsWrong)

/-- 'laws.FnExactIsMissed': WHATEVER THE INPUT: true; the input reads as it did. -/
def fnExactIsMissedSpec : ChangeSpec := { name := "fnExactIsMissed", fn := fun _ => fun
  | [d1, d2] => { results := [.lit (.bool true)], args := [d1, d2] }
  | _ => none }
def fnExactIsMissedRow : OpenClaim := { program := "ytfmbefmiglpijaa", sum := "6f9f0119e2a920498ade32de61322af507183b808f5633711dcb1527989a464d", func := "loop.example/g00833/laws.FnExactIsMissed", spec := "fnExactIsMissed", apart := false }
def FnExactIsMissedSaid : Prop := fnExactIsMissedRow.holds Try.pinned (OpenSpec.ofChange fnExactIsMissedSpec)

/-- ITS FALSE NEIGHBOUR: 'it returns false'. Refute it at one input. -/
def fnExactIsMissedWrong : ChangeSpec := { name := "fnExactIsMissed", fn := fun _ => fun
  | [d1, d2] => { results := [.lit (.bool false)], args := [d1, d2] }
  | _ => none }
def FnExactIsMissedWrongFalsely : Prop := fnExactIsMissedRow.holds Try.pinned (OpenSpec.ofChange fnExactIsMissedWrong)

/-- 'laws.FnExactOrderOf': WHATEVER THE INPUT: true; the input reads as it did. -/
def fnExactOrderOfSpec : ChangeSpec := { name := "fnExactOrderOf", fn := fun _ => fun
  | [d] => { results := [.lit (.bool true)], args := [d] }
  | _ => none }
def fnExactOrderOfRow : OpenClaim := { program := "ytfmbefmiglpijaa", sum := "6f9f0119e2a920498ade32de61322af507183b808f5633711dcb1527989a464d", func := "loop.example/g00833/laws.FnExactOrderOf", spec := "fnExactOrderOf", apart := false }
def FnExactOrderOfSaid : Prop := fnExactOrderOfRow.holds Try.pinned (OpenSpec.ofChange fnExactOrderOfSpec)

/-- ITS FALSE NEIGHBOUR: 'it returns false'. Refute it at one input. -/
def fnExactOrderOfWrong : ChangeSpec := { name := "fnExactOrderOf", fn := fun _ => fun
  | [d] => { results := [.lit (.bool false)], args := [d] }
  | _ => none }
def FnExactOrderOfWrongFalsely : Prop := fnExactOrderOfRow.holds Try.pinned (OpenSpec.ofChange fnExactOrderOfWrong)

/-- 'laws.FnExactLeastWeight': WHATEVER THE INPUT: true; the input reads as it did. -/
def fnExactLeastWeightSpec : ChangeSpec := { name := "fnExactLeastWeight", fn := fun _ => fun
  | [d1, d2] => { results := [.lit (.bool true)], args := [d1, d2] }
  | _ => none }
def fnExactLeastWeightRow : OpenClaim := { program := "ytfmbefmiglpijaa", sum := "6f9f0119e2a920498ade32de61322af507183b808f5633711dcb1527989a464d", func := "loop.example/g00833/laws.FnExactLeastWeight", spec := "fnExactLeastWeight", apart := false }
def FnExactLeastWeightSaid : Prop := fnExactLeastWeightRow.holds Try.pinned (OpenSpec.ofChange fnExactLeastWeightSpec)

/-- ITS FALSE NEIGHBOUR: 'it returns false'. Refute it at one input. -/
def fnExactLeastWeightWrong : ChangeSpec := { name := "fnExactLeastWeight", fn := fun _ => fun
  | [d1, d2] => { results := [.lit (.bool false)], args := [d1, d2] }
  | _ => none }
def FnExactLeastWeightWrongFalsely : Prop := fnExactLeastWeightRow.holds Try.pinned (OpenSpec.ofChange fnExactLeastWeightWrong)

/-- 'laws.FnExactFirstMissed': WHATEVER THE INPUT: true; the input reads as it did. -/
def fnExactFirstMissedSpec : ChangeSpec := { name := "fnExactFirstMissed", fn := fun _ => fun
  | [d1, d2] => { results := [.lit (.bool true)], args := [d1, d2] }
  | _ => none }
def fnExactFirstMissedRow : OpenClaim := { program := "ytfmbefmiglpijaa", sum := "6f9f0119e2a920498ade32de61322af507183b808f5633711dcb1527989a464d", func := "loop.example/g00833/laws.FnExactFirstMissed", spec := "fnExactFirstMissed", apart := false }
def FnExactFirstMissedSaid : Prop := fnExactFirstMissedRow.holds Try.pinned (OpenSpec.ofChange fnExactFirstMissedSpec)

/-- ITS FALSE NEIGHBOUR: 'it returns false'. Refute it at one input. -/
def fnExactFirstMissedWrong : ChangeSpec := { name := "fnExactFirstMissed", fn := fun _ => fun
  | [d1, d2] => { results := [.lit (.bool false)], args := [d1, d2] }
  | _ => none }
def FnExactFirstMissedWrongFalsely : Prop := fnExactFirstMissedRow.holds Try.pinned (OpenSpec.ofChange fnExactFirstMissedWrong)

/-- 'laws.FnExactBurstOf': WHATEVER THE INPUT: true; the input reads as it did. -/
def fnExactBurstOfSpec : ChangeSpec := { name := "fnExactBurstOf", fn := fun _ => fun
  | [d] => { results := [.lit (.bool true)], args := [d] }
  | _ => none }
def fnExactBurstOfRow : OpenClaim := { program := "ytfmbefmiglpijaa", sum := "6f9f0119e2a920498ade32de61322af507183b808f5633711dcb1527989a464d", func := "loop.example/g00833/laws.FnExactBurstOf", spec := "fnExactBurstOf", apart := false }
def FnExactBurstOfSaid : Prop := fnExactBurstOfRow.holds Try.pinned (OpenSpec.ofChange fnExactBurstOfSpec)

/-- ITS FALSE NEIGHBOUR: 'it returns false'. Refute it at one input. -/
def fnExactBurstOfWrong : ChangeSpec := { name := "fnExactBurstOf", fn := fun _ => fun
  | [d] => { results := [.lit (.bool false)], args := [d] }
  | _ => none }
def FnExactBurstOfWrongFalsely : Prop := fnExactBurstOfRow.holds Try.pinned (OpenSpec.ofChange fnExactBurstOfWrong)

/-- 'laws.FnExactIsFound': WHATEVER THE INPUT: true; the input reads as it did. -/
def fnExactIsFoundSpec : ChangeSpec := { name := "fnExactIsFound", fn := fun _ => fun
  | [d1, d2] => { results := [.lit (.bool true)], args := [d1, d2] }
  | _ => none }
def fnExactIsFoundRow : OpenClaim := { program := "ytfmbefmiglpijaa", sum := "6f9f0119e2a920498ade32de61322af507183b808f5633711dcb1527989a464d", func := "loop.example/g00833/laws.FnExactIsFound", spec := "fnExactIsFound", apart := false }
def FnExactIsFoundSaid : Prop := fnExactIsFoundRow.holds Try.pinned (OpenSpec.ofChange fnExactIsFoundSpec)

/-- ITS FALSE NEIGHBOUR: 'it returns false'. Refute it at one input. -/
def fnExactIsFoundWrong : ChangeSpec := { name := "fnExactIsFound", fn := fun _ => fun
  | [d1, d2] => { results := [.lit (.bool false)], args := [d1, d2] }
  | _ => none }
def FnExactIsFoundWrongFalsely : Prop := fnExactIsFoundRow.holds Try.pinned (OpenSpec.ofChange fnExactIsFoundWrong)

/-- 'laws.FnExactSumErrors': WHATEVER THE INPUT: true; the input reads as it did. -/
def fnExactSumErrorsSpec : ChangeSpec := { name := "fnExactSumErrors", fn := fun _ => fun
  | [d1, d2] => { results := [.lit (.bool true)], args := [d1, d2] }
  | _ => none }
def fnExactSumErrorsRow : OpenClaim := { program := "ytfmbefmiglpijaa", sum := "6f9f0119e2a920498ade32de61322af507183b808f5633711dcb1527989a464d", func := "loop.example/g00833/laws.FnExactSumErrors", spec := "fnExactSumErrors", apart := false }
def FnExactSumErrorsSaid : Prop := fnExactSumErrorsRow.holds Try.pinned (OpenSpec.ofChange fnExactSumErrorsSpec)

/-- ITS FALSE NEIGHBOUR: 'it returns false'. Refute it at one input. -/
def fnExactSumErrorsWrong : ChangeSpec := { name := "fnExactSumErrors", fn := fun _ => fun
  | [d1, d2] => { results := [.lit (.bool false)], args := [d1, d2] }
  | _ => none }
def FnExactSumErrorsWrongFalsely : Prop := fnExactSumErrorsRow.holds Try.pinned (OpenSpec.ofChange fnExactSumErrorsWrong)

/- THE SECOND FORM. 'bulk': how many values and letters a reading holds, each counted each time it is reached (what is shared counts as often as it is met; a slice's spare places count too). A statement '..UptoSaid' is the law's where the arguments, and the package variables that the reading takes, are together of bulk at most 1048576: NARROWER than '..Said'. Prove '..Said' where nothing that the law and all that it calls make is longer than what came in: it says more and counts as full. Else prove '..UptoSaid'. A law counts once. -/
mutual
def uptoBulk {H : Type} : DataW H → Nat
  | .lit (.string bytes) => bytes.length + 1
  | .lit _ => 1
  | .nil => 1
  | .ptr d => uptoBulk d + 1
  | .slice elems spare => uptoBulkAll elems + uptoBulkAll spare + 1
  | .agg parts => uptoBulkAll parts + 1
  | .iface _ d => uptoBulk d + 1
  | .map entries => uptoBulkEntries entries + 1
  | .held _ => 1
def uptoBulkAll {H : Type} : List (DataW H) → Nat
  | [] => 0
  | d :: r => uptoBulk d + uptoBulkAll r
def uptoBulkEntries {H : Type} : List (Lit × DataW H) → Nat
  | [] => 0
  | x :: r => uptoBulkEntry x + uptoBulkEntries r
def uptoBulkEntry {H : Type} : Lit × DataW H → Nat
  | (.string bytes, d) => bytes.length + uptoBulk d + 1
  | (_, d) => uptoBulk d + 1
 end
def uptoSmall : (H : Type) → List (DataW H) → Bool := fun _ ds => decide (uptoBulkAll ds ≤ 1048576)
def OpenSpec.upto (s : _root_.Go.ChangeSpec) : _root_.Go.OpenSpec := { _root_.Go.OpenSpec.ofChange s with cond := some uptoSmall }

/-- 'laws.FnFound', WHERE WHAT IT READS IS OF BULK AT MOST 1048576: true; the input reads as it did. -/
def fnFoundUptoRow : OpenClaim := { program := "ytfmbefmiglpijaa", sum := "6f9f0119e2a920498ade32de61322af507183b808f5633711dcb1527989a464d", func := "loop.example/g00833/laws.FnFound", spec := "fnFound", apart := false, narrowed := true }
def FnFoundUptoSaid : Prop := fnFoundUptoRow.holds Try.pinned (OpenSpec.upto fnFoundSpec)

/-- 'laws.FnLeastMissed', WHERE WHAT IT READS IS OF BULK AT MOST 1048576: true; the input reads as it did. -/
def fnLeastMissedUptoRow : OpenClaim := { program := "ytfmbefmiglpijaa", sum := "6f9f0119e2a920498ade32de61322af507183b808f5633711dcb1527989a464d", func := "loop.example/g00833/laws.FnLeastMissed", spec := "fnLeastMissed", apart := false, narrowed := true }
def FnLeastMissedUptoSaid : Prop := fnLeastMissedUptoRow.holds Try.pinned (OpenSpec.upto fnLeastMissedSpec)

/-- 'laws.FnOrders', WHERE WHAT IT READS IS OF BULK AT MOST 1048576: true; the input reads as it did. -/
def fnOrdersUptoRow : OpenClaim := { program := "ytfmbefmiglpijaa", sum := "6f9f0119e2a920498ade32de61322af507183b808f5633711dcb1527989a464d", func := "loop.example/g00833/laws.FnOrders", spec := "fnOrders", apart := false, narrowed := true }
def FnOrdersUptoSaid : Prop := fnOrdersUptoRow.holds Try.pinned (OpenSpec.upto fnOrdersSpec)

/-- 'laws.FnBursts', WHERE WHAT IT READS IS OF BULK AT MOST 1048576: true; the input reads as it did. -/
def fnBurstsUptoRow : OpenClaim := { program := "ytfmbefmiglpijaa", sum := "6f9f0119e2a920498ade32de61322af507183b808f5633711dcb1527989a464d", func := "loop.example/g00833/laws.FnBursts", spec := "fnBursts", apart := false, narrowed := true }
def FnBurstsUptoSaid : Prop := fnBurstsUptoRow.holds Try.pinned (OpenSpec.upto fnBurstsSpec)

/-- 'laws.FnExactIsMissed', WHERE WHAT IT READS IS OF BULK AT MOST 1048576: true; the input reads as it did. -/
def fnExactIsMissedUptoRow : OpenClaim := { program := "ytfmbefmiglpijaa", sum := "6f9f0119e2a920498ade32de61322af507183b808f5633711dcb1527989a464d", func := "loop.example/g00833/laws.FnExactIsMissed", spec := "fnExactIsMissed", apart := false, narrowed := true }
def FnExactIsMissedUptoSaid : Prop := fnExactIsMissedUptoRow.holds Try.pinned (OpenSpec.upto fnExactIsMissedSpec)

/-- 'laws.FnExactOrderOf', WHERE WHAT IT READS IS OF BULK AT MOST 1048576: true; the input reads as it did. -/
def fnExactOrderOfUptoRow : OpenClaim := { program := "ytfmbefmiglpijaa", sum := "6f9f0119e2a920498ade32de61322af507183b808f5633711dcb1527989a464d", func := "loop.example/g00833/laws.FnExactOrderOf", spec := "fnExactOrderOf", apart := false, narrowed := true }
def FnExactOrderOfUptoSaid : Prop := fnExactOrderOfUptoRow.holds Try.pinned (OpenSpec.upto fnExactOrderOfSpec)

/-- 'laws.FnExactLeastWeight', WHERE WHAT IT READS IS OF BULK AT MOST 1048576: true; the input reads as it did. -/
def fnExactLeastWeightUptoRow : OpenClaim := { program := "ytfmbefmiglpijaa", sum := "6f9f0119e2a920498ade32de61322af507183b808f5633711dcb1527989a464d", func := "loop.example/g00833/laws.FnExactLeastWeight", spec := "fnExactLeastWeight", apart := false, narrowed := true }
def FnExactLeastWeightUptoSaid : Prop := fnExactLeastWeightUptoRow.holds Try.pinned (OpenSpec.upto fnExactLeastWeightSpec)

/-- 'laws.FnExactFirstMissed', WHERE WHAT IT READS IS OF BULK AT MOST 1048576: true; the input reads as it did. -/
def fnExactFirstMissedUptoRow : OpenClaim := { program := "ytfmbefmiglpijaa", sum := "6f9f0119e2a920498ade32de61322af507183b808f5633711dcb1527989a464d", func := "loop.example/g00833/laws.FnExactFirstMissed", spec := "fnExactFirstMissed", apart := false, narrowed := true }
def FnExactFirstMissedUptoSaid : Prop := fnExactFirstMissedUptoRow.holds Try.pinned (OpenSpec.upto fnExactFirstMissedSpec)

/-- 'laws.FnExactBurstOf', WHERE WHAT IT READS IS OF BULK AT MOST 1048576: true; the input reads as it did. -/
def fnExactBurstOfUptoRow : OpenClaim := { program := "ytfmbefmiglpijaa", sum := "6f9f0119e2a920498ade32de61322af507183b808f5633711dcb1527989a464d", func := "loop.example/g00833/laws.FnExactBurstOf", spec := "fnExactBurstOf", apart := false, narrowed := true }
def FnExactBurstOfUptoSaid : Prop := fnExactBurstOfUptoRow.holds Try.pinned (OpenSpec.upto fnExactBurstOfSpec)

/-- 'laws.FnExactIsFound', WHERE WHAT IT READS IS OF BULK AT MOST 1048576: true; the input reads as it did. -/
def fnExactIsFoundUptoRow : OpenClaim := { program := "ytfmbefmiglpijaa", sum := "6f9f0119e2a920498ade32de61322af507183b808f5633711dcb1527989a464d", func := "loop.example/g00833/laws.FnExactIsFound", spec := "fnExactIsFound", apart := false, narrowed := true }
def FnExactIsFoundUptoSaid : Prop := fnExactIsFoundUptoRow.holds Try.pinned (OpenSpec.upto fnExactIsFoundSpec)

/-- 'laws.FnExactSumErrors', WHERE WHAT IT READS IS OF BULK AT MOST 1048576: true; the input reads as it did. -/
def fnExactSumErrorsUptoRow : OpenClaim := { program := "ytfmbefmiglpijaa", sum := "6f9f0119e2a920498ade32de61322af507183b808f5633711dcb1527989a464d", func := "loop.example/g00833/laws.FnExactSumErrors", spec := "fnExactSumErrors", apart := false, narrowed := true }
def FnExactSumErrorsUptoSaid : Prop := fnExactSumErrorsUptoRow.holds Try.pinned (OpenSpec.upto fnExactSumErrorsSpec)

end Rows
end Go.Proofs.Ytfmbefmiglpijaa
