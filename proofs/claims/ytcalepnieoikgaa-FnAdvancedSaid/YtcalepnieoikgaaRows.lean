/-
  No cell of these rows narrows 'for every input' (looked for: loops, veiled, ifaces, maps, wideKeys, modest, calm, conditions, laid).
  DERIVED. THE GIVEN ROWS OF THIS SEAT. 8 by the template 'for every input the law returns true; each argument reads behind the call as it read before'; 0 by the template 'total and deterministic' (their statements: YtcalepnieoikgaaTotals.lean).
  GIVEN WITH THE SEED: the statements are not yours to turn. If you find one false, say at which input.
  Laid BY PROGRAM, IN A SANDBOX (cutbox-rows.mjs): the forced cells as the released guide's own fill.sh prints them over the translation b14ed9b9b3c4a7e1… (all of the seat's roots in one cut). By AI agents, Wed Nov 11 2026. No macro, syntax, notation, axiom, sorry.
-/
import Derived.Test.YtcalepnieoikgaaChecked
import GoSem.Claim
import GoSem.ClaimJoined
import GoSem.ClaimMapViews
import Derived.JoinedTies
import Derived.KernelRfl
namespace Go.Proofs.Ytcalepnieoikgaa
/- THE CELL 'sum', in the pinned program and in every row, IS THE sha256 OF THE DUMP (.gsa) THAT YtcalepnieoikgaaProg.lean LOADS. Nothing in Lean hashes anything: it is a label: what it is worth is what the hold of that sum in a sandbox is worth. -/
noncomputable def Try.pinned : Pinned := { name := "ytcalepnieoikgaa", sum := "b14ed9b9b3c4a7e16dbab65c4c6a351194851302cd511cf4f22e1d4a43a8a152", checked := Try.checked }
namespace Rows
def none {H : Type} : Left H := { results := [], args := [] }

/-- 'laws.FnAdvanced': WHATEVER THE INPUT: true; the input reads as it did. -/
def fnAdvancedSpec : ChangeSpec := { name := "fnAdvanced", fn := fun _ => fun
  | [d] => { results := [.lit (.bool true)], args := [d] }
  | _ => none }
def fnAdvancedRow : OpenClaim := { program := "ytcalepnieoikgaa", sum := "b14ed9b9b3c4a7e16dbab65c4c6a351194851302cd511cf4f22e1d4a43a8a152", func := "loop.example/g00833/laws.FnAdvanced", spec := "fnAdvanced", apart := false }
def FnAdvancedSaid : Prop := fnAdvancedRow.holds Try.pinned (OpenSpec.ofChange fnAdvancedSpec)

/-- ITS FALSE NEIGHBOUR: 'it returns false'. Refute it at one input. -/
def fnAdvancedWrong : ChangeSpec := { name := "fnAdvanced", fn := fun _ => fun
  | [d] => { results := [.lit (.bool false)], args := [d] }
  | _ => none }
def FnAdvancedWrongFalsely : Prop := fnAdvancedRow.holds Try.pinned (OpenSpec.ofChange fnAdvancedWrong)

/-- 'laws.FnSeals': WHATEVER THE INPUT: true; the input reads as it did. -/
def fnSealsSpec : ChangeSpec := { name := "fnSeals", fn := fun _ => fun
  | [d] => { results := [.lit (.bool true)], args := [d] }
  | _ => none }
def fnSealsRow : OpenClaim := { program := "ytcalepnieoikgaa", sum := "b14ed9b9b3c4a7e16dbab65c4c6a351194851302cd511cf4f22e1d4a43a8a152", func := "loop.example/g00833/laws.FnSeals", spec := "fnSeals", unfollowed := true, recurses := true, apart := false }
def FnSealsSaid : Prop := fnSealsRow.holds Try.pinned (OpenSpec.ofChange fnSealsSpec)

/-- ITS FALSE NEIGHBOUR: 'it returns false'. Refute it at one input. -/
def fnSealsWrong : ChangeSpec := { name := "fnSeals", fn := fun _ => fun
  | [d] => { results := [.lit (.bool false)], args := [d] }
  | _ => none }
def FnSealsWrongFalsely : Prop := fnSealsRow.holds Try.pinned (OpenSpec.ofChange fnSealsWrong)

/-- 'laws.FnOpened': WHATEVER THE INPUT: true; the input reads as it did. -/
def fnOpenedSpec : ChangeSpec := { name := "fnOpened", fn := fun _ => fun
  | [d] => { results := [.lit (.bool true)], args := [d] }
  | _ => none }
def fnOpenedRow : OpenClaim := { program := "ytcalepnieoikgaa", sum := "b14ed9b9b3c4a7e16dbab65c4c6a351194851302cd511cf4f22e1d4a43a8a152", func := "loop.example/g00833/laws.FnOpened", spec := "fnOpened", unfollowed := true, recurses := true, apart := false }
def FnOpenedSaid : Prop := fnOpenedRow.holds Try.pinned (OpenSpec.ofChange fnOpenedSpec)

/-- ITS FALSE NEIGHBOUR: 'it returns false'. Refute it at one input. -/
def fnOpenedWrong : ChangeSpec := { name := "fnOpened", fn := fun _ => fun
  | [d] => { results := [.lit (.bool false)], args := [d] }
  | _ => none }
def FnOpenedWrongFalsely : Prop := fnOpenedRow.holds Try.pinned (OpenSpec.ofChange fnOpenedWrong)

/-- 'laws.FnDamagedSeals': WHATEVER THE INPUT: true; the input reads as it did. -/
def fnDamagedSealsSpec : ChangeSpec := { name := "fnDamagedSeals", fn := fun _ => fun
  | [d] => { results := [.lit (.bool true)], args := [d] }
  | _ => none }
def fnDamagedSealsRow : OpenClaim := { program := "ytcalepnieoikgaa", sum := "b14ed9b9b3c4a7e16dbab65c4c6a351194851302cd511cf4f22e1d4a43a8a152", func := "loop.example/g00833/laws.FnDamagedSeals", spec := "fnDamagedSeals", unfollowed := true, recurses := true, apart := false }
def FnDamagedSealsSaid : Prop := fnDamagedSealsRow.holds Try.pinned (OpenSpec.ofChange fnDamagedSealsSpec)

/-- ITS FALSE NEIGHBOUR: 'it returns false'. Refute it at one input. -/
def fnDamagedSealsWrong : ChangeSpec := { name := "fnDamagedSeals", fn := fun _ => fun
  | [d] => { results := [.lit (.bool false)], args := [d] }
  | _ => none }
def FnDamagedSealsWrongFalsely : Prop := fnDamagedSealsRow.holds Try.pinned (OpenSpec.ofChange fnDamagedSealsWrong)

/-- 'laws.FnExactAdvanceState': WHATEVER THE INPUT: true; the input reads as it did. -/
def fnExactAdvanceStateSpec : ChangeSpec := { name := "fnExactAdvanceState", fn := fun _ => fun
  | [d1, d2, d3, d4] => { results := [.lit (.bool true)], args := [d1, d2, d3, d4] }
  | _ => none }
def fnExactAdvanceStateRow : OpenClaim := { program := "ytcalepnieoikgaa", sum := "b14ed9b9b3c4a7e16dbab65c4c6a351194851302cd511cf4f22e1d4a43a8a152", func := "loop.example/g00833/laws.FnExactAdvanceState", spec := "fnExactAdvanceState", apart := false }
def FnExactAdvanceStateSaid : Prop := fnExactAdvanceStateRow.holds Try.pinned (OpenSpec.ofChange fnExactAdvanceStateSpec)

/-- ITS FALSE NEIGHBOUR: 'it returns false'. Refute it at one input. -/
def fnExactAdvanceStateWrong : ChangeSpec := { name := "fnExactAdvanceState", fn := fun _ => fun
  | [d1, d2, d3, d4] => { results := [.lit (.bool false)], args := [d1, d2, d3, d4] }
  | _ => none }
def FnExactAdvanceStateWrongFalsely : Prop := fnExactAdvanceStateRow.holds Try.pinned (OpenSpec.ofChange fnExactAdvanceStateWrong)

/-- 'laws.FnExactSealFrame': WHATEVER THE INPUT: true; the input reads as it did. -/
def fnExactSealFrameSpec : ChangeSpec := { name := "fnExactSealFrame", fn := fun _ => fun
  | [d1, d2, d3] => { results := [.lit (.bool true)], args := [d1, d2, d3] }
  | _ => none }
def fnExactSealFrameRow : OpenClaim := { program := "ytcalepnieoikgaa", sum := "b14ed9b9b3c4a7e16dbab65c4c6a351194851302cd511cf4f22e1d4a43a8a152", func := "loop.example/g00833/laws.FnExactSealFrame", spec := "fnExactSealFrame", unfollowed := true, recurses := true, apart := false }
def FnExactSealFrameSaid : Prop := fnExactSealFrameRow.holds Try.pinned (OpenSpec.ofChange fnExactSealFrameSpec)

/-- ITS FALSE NEIGHBOUR: 'it returns false'. Refute it at one input. -/
def fnExactSealFrameWrong : ChangeSpec := { name := "fnExactSealFrame", fn := fun _ => fun
  | [d1, d2, d3] => { results := [.lit (.bool false)], args := [d1, d2, d3] }
  | _ => none }
def FnExactSealFrameWrongFalsely : Prop := fnExactSealFrameRow.holds Try.pinned (OpenSpec.ofChange fnExactSealFrameWrong)

/-- 'laws.FnExactOpenFrame': WHATEVER THE INPUT: true; the input reads as it did. -/
def fnExactOpenFrameSpec : ChangeSpec := { name := "fnExactOpenFrame", fn := fun _ => fun
  | [d1, d2, d3] => { results := [.lit (.bool true)], args := [d1, d2, d3] }
  | _ => none }
def fnExactOpenFrameRow : OpenClaim := { program := "ytcalepnieoikgaa", sum := "b14ed9b9b3c4a7e16dbab65c4c6a351194851302cd511cf4f22e1d4a43a8a152", func := "loop.example/g00833/laws.FnExactOpenFrame", spec := "fnExactOpenFrame", unfollowed := true, recurses := true, apart := false }
def FnExactOpenFrameSaid : Prop := fnExactOpenFrameRow.holds Try.pinned (OpenSpec.ofChange fnExactOpenFrameSpec)

/-- ITS FALSE NEIGHBOUR: 'it returns false'. Refute it at one input. -/
def fnExactOpenFrameWrong : ChangeSpec := { name := "fnExactOpenFrame", fn := fun _ => fun
  | [d1, d2, d3] => { results := [.lit (.bool false)], args := [d1, d2, d3] }
  | _ => none }
def FnExactOpenFrameWrongFalsely : Prop := fnExactOpenFrameRow.holds Try.pinned (OpenSpec.ofChange fnExactOpenFrameWrong)

/-- 'laws.FnExactIsOpenable': WHATEVER THE INPUT: true; the input reads as it did. -/
def fnExactIsOpenableSpec : ChangeSpec := { name := "fnExactIsOpenable", fn := fun _ => fun
  | [d1, d2, d3] => { results := [.lit (.bool true)], args := [d1, d2, d3] }
  | _ => none }
def fnExactIsOpenableRow : OpenClaim := { program := "ytcalepnieoikgaa", sum := "b14ed9b9b3c4a7e16dbab65c4c6a351194851302cd511cf4f22e1d4a43a8a152", func := "loop.example/g00833/laws.FnExactIsOpenable", spec := "fnExactIsOpenable", unfollowed := true, recurses := true, apart := false }
def FnExactIsOpenableSaid : Prop := fnExactIsOpenableRow.holds Try.pinned (OpenSpec.ofChange fnExactIsOpenableSpec)

/-- ITS FALSE NEIGHBOUR: 'it returns false'. Refute it at one input. -/
def fnExactIsOpenableWrong : ChangeSpec := { name := "fnExactIsOpenable", fn := fun _ => fun
  | [d1, d2, d3] => { results := [.lit (.bool false)], args := [d1, d2, d3] }
  | _ => none }
def FnExactIsOpenableWrongFalsely : Prop := fnExactIsOpenableRow.holds Try.pinned (OpenSpec.ofChange fnExactIsOpenableWrong)

/- THE SECOND FORM. 'bulk': how many values and letters a reading holds, each counted each time it is reached (what is shared counts as often as it is met; a slice's spare places count too). A statement '..UptoSaid' is the law's where the arguments, and the package variables that the reading takes, are together of bulk at most 1048576: NARROWER than '..Said'. Prove '..Said' where nothing that the law and all that it calls make is longer than what came in: it says more and counts as full. Else prove '..UptoSaid'. A law counts once. -/
mutual
def uptoBulk {H : Type} : DataW H → Nat
  | .lit (.string bytes) => bytes.length + 1
  | .lit _ => 1
  | .nil => 1
  | .ptr d => uptoBulk d + 1
  | .slice elems spare => uptoBulkAll elems + uptoBulkAll spare + 1
  | .agg parts => uptoBulkAll parts + 1
  | .iface _ d => uptoBulk d + 1
  | .map entries => uptoBulkEntries entries + 1
  | .held _ => 1
def uptoBulkAll {H : Type} : List (DataW H) → Nat
  | [] => 0
  | d :: r => uptoBulk d + uptoBulkAll r
def uptoBulkEntries {H : Type} : List (Lit × DataW H) → Nat
  | [] => 0
  | x :: r => uptoBulkEntry x + uptoBulkEntries r
def uptoBulkEntry {H : Type} : Lit × DataW H → Nat
  | (.string bytes, d) => bytes.length + uptoBulk d + 1
  | (_, d) => uptoBulk d + 1
 end
def uptoSmall : (H : Type) → List (DataW H) → Bool := fun _ ds => decide (uptoBulkAll ds ≤ 1048576)
def OpenSpec.upto (s : _root_.Go.ChangeSpec) : _root_.Go.OpenSpec := { _root_.Go.OpenSpec.ofChange s with cond := some uptoSmall }

/-- 'laws.FnAdvanced', WHERE WHAT IT READS IS OF BULK AT MOST 1048576: true; the input reads as it did. -/
def fnAdvancedUptoRow : OpenClaim := { program := "ytcalepnieoikgaa", sum := "b14ed9b9b3c4a7e16dbab65c4c6a351194851302cd511cf4f22e1d4a43a8a152", func := "loop.example/g00833/laws.FnAdvanced", spec := "fnAdvanced", apart := false, narrowed := true }
def FnAdvancedUptoSaid : Prop := fnAdvancedUptoRow.holds Try.pinned (OpenSpec.upto fnAdvancedSpec)

/-- 'laws.FnSeals', WHERE WHAT IT READS IS OF BULK AT MOST 1048576: true; the input reads as it did. -/
def fnSealsUptoRow : OpenClaim := { program := "ytcalepnieoikgaa", sum := "b14ed9b9b3c4a7e16dbab65c4c6a351194851302cd511cf4f22e1d4a43a8a152", func := "loop.example/g00833/laws.FnSeals", spec := "fnSeals", unfollowed := true, recurses := true, apart := false, narrowed := true }
def FnSealsUptoSaid : Prop := fnSealsUptoRow.holds Try.pinned (OpenSpec.upto fnSealsSpec)

/-- 'laws.FnOpened', WHERE WHAT IT READS IS OF BULK AT MOST 1048576: true; the input reads as it did. -/
def fnOpenedUptoRow : OpenClaim := { program := "ytcalepnieoikgaa", sum := "b14ed9b9b3c4a7e16dbab65c4c6a351194851302cd511cf4f22e1d4a43a8a152", func := "loop.example/g00833/laws.FnOpened", spec := "fnOpened", unfollowed := true, recurses := true, apart := false, narrowed := true }
def FnOpenedUptoSaid : Prop := fnOpenedUptoRow.holds Try.pinned (OpenSpec.upto fnOpenedSpec)

/-- 'laws.FnDamagedSeals', WHERE WHAT IT READS IS OF BULK AT MOST 1048576: true; the input reads as it did. -/
def fnDamagedSealsUptoRow : OpenClaim := { program := "ytcalepnieoikgaa", sum := "b14ed9b9b3c4a7e16dbab65c4c6a351194851302cd511cf4f22e1d4a43a8a152", func := "loop.example/g00833/laws.FnDamagedSeals", spec := "fnDamagedSeals", unfollowed := true, recurses := true, apart := false, narrowed := true }
def FnDamagedSealsUptoSaid : Prop := fnDamagedSealsUptoRow.holds Try.pinned (OpenSpec.upto fnDamagedSealsSpec)

/-- 'laws.FnExactAdvanceState', WHERE WHAT IT READS IS OF BULK AT MOST 1048576: true; the input reads as it did. -/
def fnExactAdvanceStateUptoRow : OpenClaim := { program := "ytcalepnieoikgaa", sum := "b14ed9b9b3c4a7e16dbab65c4c6a351194851302cd511cf4f22e1d4a43a8a152", func := "loop.example/g00833/laws.FnExactAdvanceState", spec := "fnExactAdvanceState", apart := false, narrowed := true }
def FnExactAdvanceStateUptoSaid : Prop := fnExactAdvanceStateUptoRow.holds Try.pinned (OpenSpec.upto fnExactAdvanceStateSpec)

/-- 'laws.FnExactSealFrame', WHERE WHAT IT READS IS OF BULK AT MOST 1048576: true; the input reads as it did. -/
def fnExactSealFrameUptoRow : OpenClaim := { program := "ytcalepnieoikgaa", sum := "b14ed9b9b3c4a7e16dbab65c4c6a351194851302cd511cf4f22e1d4a43a8a152", func := "loop.example/g00833/laws.FnExactSealFrame", spec := "fnExactSealFrame", unfollowed := true, recurses := true, apart := false, narrowed := true }
def FnExactSealFrameUptoSaid : Prop := fnExactSealFrameUptoRow.holds Try.pinned (OpenSpec.upto fnExactSealFrameSpec)

/-- 'laws.FnExactOpenFrame', WHERE WHAT IT READS IS OF BULK AT MOST 1048576: true; the input reads as it did. -/
def fnExactOpenFrameUptoRow : OpenClaim := { program := "ytcalepnieoikgaa", sum := "b14ed9b9b3c4a7e16dbab65c4c6a351194851302cd511cf4f22e1d4a43a8a152", func := "loop.example/g00833/laws.FnExactOpenFrame", spec := "fnExactOpenFrame", unfollowed := true, recurses := true, apart := false, narrowed := true }
def FnExactOpenFrameUptoSaid : Prop := fnExactOpenFrameUptoRow.holds Try.pinned (OpenSpec.upto fnExactOpenFrameSpec)

/-- 'laws.FnExactIsOpenable', WHERE WHAT IT READS IS OF BULK AT MOST 1048576: true; the input reads as it did. -/
def fnExactIsOpenableUptoRow : OpenClaim := { program := "ytcalepnieoikgaa", sum := "b14ed9b9b3c4a7e16dbab65c4c6a351194851302cd511cf4f22e1d4a43a8a152", func := "loop.example/g00833/laws.FnExactIsOpenable", spec := "fnExactIsOpenable", unfollowed := true, recurses := true, apart := false, narrowed := true }
def FnExactIsOpenableUptoSaid : Prop := fnExactIsOpenableUptoRow.holds Try.pinned (OpenSpec.upto fnExactIsOpenableSpec)

end Rows
end Go.Proofs.Ytcalepnieoikgaa
