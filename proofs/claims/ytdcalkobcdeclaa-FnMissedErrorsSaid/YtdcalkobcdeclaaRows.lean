/-
  No cell of these rows narrows 'for every input' (looked for: loops, veiled, ifaces, maps, wideKeys, modest, calm, conditions, laid).
  DERIVED. THE GIVEN ROWS OF THIS SEAT. 11 by the template 'for every input the law returns true; each argument reads behind the call as it read before'; 0 by the template 'total and deterministic' (their statements: YtdcalkobcdeclaaTotals.lean).
  GIVEN WITH THE SEED: the statements are not yours to turn. If you find one false, say at which input.
  Laid BY PROGRAM, IN A SANDBOX (cutbox-rows.mjs): the forced cells as the released guide's own fill.sh prints them over the translation 479381fc2e89332a… (all of the seat's roots in one cut). By AI agents, Wed Nov 11 2026. No macro, syntax, notation, axiom, sorry.
-/
import Derived.Test.YtdcalkobcdeclaaChecked
import GoSem.Claim
import GoSem.ClaimJoined
import GoSem.ClaimMapViews
import Derived.JoinedTies
import Derived.KernelRfl
namespace Go.Proofs.Ytdcalkobcdeclaa
/- THE CELL 'sum', in the pinned program and in every row, IS THE sha256 OF THE DUMP (.gsa) THAT YtdcalkobcdeclaaProg.lean LOADS. Nothing in Lean hashes anything: it is a label: what it is worth is what the hold of that sum in a sandbox is worth. -/
noncomputable def Try.pinned : Pinned := { name := "ytdcalkobcdeclaa", sum := "479381fc2e89332a2aa2baf9d90347c2619d0a6daac6981047c46aaa983d708c", checked := Try.checked }
namespace Rows
def none {H : Type} : Left H := { results := [], args := [] }

/-- 'laws.FnKinds': WHATEVER THE INPUT: true; the input reads as it did. -/
def fnKindsSpec : ChangeSpec := { name := "fnKinds", fn := fun _ => fun
  | [d] => { results := [.lit (.bool true)], args := [d] }
  | _ => none }
def fnKindsRow : OpenClaim := { program := "ytdcalkobcdeclaa", sum := "479381fc2e89332a2aa2baf9d90347c2619d0a6daac6981047c46aaa983d708c", func := "loop.example/g00833/laws.FnKinds", spec := "fnKinds", unfollowed := true, recurses := true, apart := false }
def FnKindsSaid : Prop := fnKindsRow.holds Try.pinned (OpenSpec.ofChange fnKindsSpec)

/-- ITS FALSE NEIGHBOUR: 'it returns false'. Refute it at one input. -/
def fnKindsWrong : ChangeSpec := { name := "fnKinds", fn := fun _ => fun
  | [d] => { results := [.lit (.bool false)], args := [d] }
  | _ => none }
def FnKindsWrongFalsely : Prop := fnKindsRow.holds Try.pinned (OpenSpec.ofChange fnKindsWrong)

/-- 'laws.FnSeals': WHATEVER THE INPUT: true; the input reads as it did. -/
def fnSealsSpec : ChangeSpec := { name := "fnSeals", fn := fun _ => fun
  | [d] => { results := [.lit (.bool true)], args := [d] }
  | _ => none }
def fnSealsRow : OpenClaim := { program := "ytdcalkobcdeclaa", sum := "479381fc2e89332a2aa2baf9d90347c2619d0a6daac6981047c46aaa983d708c", func := "loop.example/g00833/laws.FnSeals", spec := "fnSeals", unfollowed := true, recurses := true, apart := false }
def FnSealsSaid : Prop := fnSealsRow.holds Try.pinned (OpenSpec.ofChange fnSealsSpec)

/-- ITS FALSE NEIGHBOUR: 'it returns false'. Refute it at one input. -/
def fnSealsWrong : ChangeSpec := { name := "fnSeals", fn := fun _ => fun
  | [d] => { results := [.lit (.bool false)], args := [d] }
  | _ => none }
def FnSealsWrongFalsely : Prop := fnSealsRow.holds Try.pinned (OpenSpec.ofChange fnSealsWrong)

/-- 'laws.FnOpened': WHATEVER THE INPUT: true; the input reads as it did. -/
def fnOpenedSpec : ChangeSpec := { name := "fnOpened", fn := fun _ => fun
  | [d] => { results := [.lit (.bool true)], args := [d] }
  | _ => none }
def fnOpenedRow : OpenClaim := { program := "ytdcalkobcdeclaa", sum := "479381fc2e89332a2aa2baf9d90347c2619d0a6daac6981047c46aaa983d708c", func := "loop.example/g00833/laws.FnOpened", spec := "fnOpened", unfollowed := true, recurses := true, apart := false }
def FnOpenedSaid : Prop := fnOpenedRow.holds Try.pinned (OpenSpec.ofChange fnOpenedSpec)

/-- ITS FALSE NEIGHBOUR: 'it returns false'. Refute it at one input. -/
def fnOpenedWrong : ChangeSpec := { name := "fnOpened", fn := fun _ => fun
  | [d] => { results := [.lit (.bool false)], args := [d] }
  | _ => none }
def FnOpenedWrongFalsely : Prop := fnOpenedRow.holds Try.pinned (OpenSpec.ofChange fnOpenedWrong)

/-- 'laws.FnMissedErrors': WHATEVER THE INPUT: true; the input reads as it did. -/
def fnMissedErrorsSpec : ChangeSpec := { name := "fnMissedErrors", fn := fun _ => fun
  | [d] => { results := [.lit (.bool true)], args := [d] }
  | _ => none }
def fnMissedErrorsRow : OpenClaim := { program := "ytdcalkobcdeclaa", sum := "479381fc2e89332a2aa2baf9d90347c2619d0a6daac6981047c46aaa983d708c", func := "loop.example/g00833/laws.FnMissedErrors", spec := "fnMissedErrors", apart := false }
def FnMissedErrorsSaid : Prop := fnMissedErrorsRow.holds Try.pinned (OpenSpec.ofChange fnMissedErrorsSpec)

/-- ITS FALSE NEIGHBOUR: 'it returns false'. Refute it at one input. -/
def fnMissedErrorsWrong : ChangeSpec := { name := "fnMissedErrors", fn := fun _ => fun
  | [d] => { results := [.lit (.bool false)], args := [d] }
  | _ => none }
def FnMissedErrorsWrongFalsely : Prop := fnMissedErrorsRow.holds Try.pinned (OpenSpec.ofChange fnMissedErrorsWrong)

/-- 'laws.FnDamagedSeals': WHATEVER THE INPUT: true; the input reads as it did. -/
def fnDamagedSealsSpec : ChangeSpec := { name := "fnDamagedSeals", fn := fun _ => fun
  | [d] => { results := [.lit (.bool true)], args := [d] }
  | _ => none }
def fnDamagedSealsRow : OpenClaim := { program := "ytdcalkobcdeclaa", sum := "479381fc2e89332a2aa2baf9d90347c2619d0a6daac6981047c46aaa983d708c", func := "loop.example/g00833/laws.FnDamagedSeals", spec := "fnDamagedSeals", unfollowed := true, recurses := true, apart := false }
def FnDamagedSealsSaid : Prop := fnDamagedSealsRow.holds Try.pinned (OpenSpec.ofChange fnDamagedSealsSpec)

/-- ITS FALSE NEIGHBOUR: 'it returns false'. Refute it at one input. -/
def fnDamagedSealsWrong : ChangeSpec := { name := "fnDamagedSeals", fn := fun _ => fun
  | [d] => { results := [.lit (.bool false)], args := [d] }
  | _ => none }
def FnDamagedSealsWrongFalsely : Prop := fnDamagedSealsRow.holds Try.pinned (OpenSpec.ofChange fnDamagedSealsWrong)

/-- 'laws.FnExactSealFrame': WHATEVER THE INPUT: true; the input reads as it did. -/
def fnExactSealFrameSpec : ChangeSpec := { name := "fnExactSealFrame", fn := fun _ => fun
  | [d1, d2, d3] => { results := [.lit (.bool true)], args := [d1, d2, d3] }
  | _ => none }
def fnExactSealFrameRow : OpenClaim := { program := "ytdcalkobcdeclaa", sum := "479381fc2e89332a2aa2baf9d90347c2619d0a6daac6981047c46aaa983d708c", func := "loop.example/g00833/laws.FnExactSealFrame", spec := "fnExactSealFrame", unfollowed := true, recurses := true, apart := false }
def FnExactSealFrameSaid : Prop := fnExactSealFrameRow.holds Try.pinned (OpenSpec.ofChange fnExactSealFrameSpec)

/-- ITS FALSE NEIGHBOUR: 'it returns false'. Refute it at one input. -/
def fnExactSealFrameWrong : ChangeSpec := { name := "fnExactSealFrame", fn := fun _ => fun
  | [d1, d2, d3] => { results := [.lit (.bool false)], args := [d1, d2, d3] }
  | _ => none }
def FnExactSealFrameWrongFalsely : Prop := fnExactSealFrameRow.holds Try.pinned (OpenSpec.ofChange fnExactSealFrameWrong)

/-- 'laws.FnExactOpenFrame': WHATEVER THE INPUT: true; the input reads as it did. -/
def fnExactOpenFrameSpec : ChangeSpec := { name := "fnExactOpenFrame", fn := fun _ => fun
  | [d1, d2, d3] => { results := [.lit (.bool true)], args := [d1, d2, d3] }
  | _ => none }
def fnExactOpenFrameRow : OpenClaim := { program := "ytdcalkobcdeclaa", sum := "479381fc2e89332a2aa2baf9d90347c2619d0a6daac6981047c46aaa983d708c", func := "loop.example/g00833/laws.FnExactOpenFrame", spec := "fnExactOpenFrame", unfollowed := true, recurses := true, apart := false }
def FnExactOpenFrameSaid : Prop := fnExactOpenFrameRow.holds Try.pinned (OpenSpec.ofChange fnExactOpenFrameSpec)

/-- ITS FALSE NEIGHBOUR: 'it returns false'. Refute it at one input. -/
def fnExactOpenFrameWrong : ChangeSpec := { name := "fnExactOpenFrame", fn := fun _ => fun
  | [d1, d2, d3] => { results := [.lit (.bool false)], args := [d1, d2, d3] }
  | _ => none }
def FnExactOpenFrameWrongFalsely : Prop := fnExactOpenFrameRow.holds Try.pinned (OpenSpec.ofChange fnExactOpenFrameWrong)

/-- 'laws.FnExactSealSize': WHATEVER THE INPUT: true; the input reads as it did. -/
def fnExactSealSizeSpec : ChangeSpec := { name := "fnExactSealSize", fn := fun _ => fun
  | [d1, d2] => { results := [.lit (.bool true)], args := [d1, d2] }
  | _ => none }
def fnExactSealSizeRow : OpenClaim := { program := "ytdcalkobcdeclaa", sum := "479381fc2e89332a2aa2baf9d90347c2619d0a6daac6981047c46aaa983d708c", func := "loop.example/g00833/laws.FnExactSealSize", spec := "fnExactSealSize", unfollowed := true, recurses := true, apart := false }
def FnExactSealSizeSaid : Prop := fnExactSealSizeRow.holds Try.pinned (OpenSpec.ofChange fnExactSealSizeSpec)

/-- ITS FALSE NEIGHBOUR: 'it returns false'. Refute it at one input. -/
def fnExactSealSizeWrong : ChangeSpec := { name := "fnExactSealSize", fn := fun _ => fun
  | [d1, d2] => { results := [.lit (.bool false)], args := [d1, d2] }
  | _ => none }
def FnExactSealSizeWrongFalsely : Prop := fnExactSealSizeRow.holds Try.pinned (OpenSpec.ofChange fnExactSealSizeWrong)

/-- 'laws.FnExactSealNumber': WHATEVER THE INPUT: true; the input reads as it did. -/
def fnExactSealNumberSpec : ChangeSpec := { name := "fnExactSealNumber", fn := fun _ => fun
  | [d1, d2, d3] => { results := [.lit (.bool true)], args := [d1, d2, d3] }
  | _ => none }
def fnExactSealNumberRow : OpenClaim := { program := "ytdcalkobcdeclaa", sum := "479381fc2e89332a2aa2baf9d90347c2619d0a6daac6981047c46aaa983d708c", func := "loop.example/g00833/laws.FnExactSealNumber", spec := "fnExactSealNumber", unfollowed := true, recurses := true, apart := false }
def FnExactSealNumberSaid : Prop := fnExactSealNumberRow.holds Try.pinned (OpenSpec.ofChange fnExactSealNumberSpec)

/-- ITS FALSE NEIGHBOUR: 'it returns false'. Refute it at one input. -/
def fnExactSealNumberWrong : ChangeSpec := { name := "fnExactSealNumber", fn := fun _ => fun
  | [d1, d2, d3] => { results := [.lit (.bool false)], args := [d1, d2, d3] }
  | _ => none }
def FnExactSealNumberWrongFalsely : Prop := fnExactSealNumberRow.holds Try.pinned (OpenSpec.ofChange fnExactSealNumberWrong)

/-- 'laws.FnExactIsOpenable': WHATEVER THE INPUT: true; the input reads as it did. -/
def fnExactIsOpenableSpec : ChangeSpec := { name := "fnExactIsOpenable", fn := fun _ => fun
  | [d1, d2, d3] => { results := [.lit (.bool true)], args := [d1, d2, d3] }
  | _ => none }
def fnExactIsOpenableRow : OpenClaim := { program := "ytdcalkobcdeclaa", sum := "479381fc2e89332a2aa2baf9d90347c2619d0a6daac6981047c46aaa983d708c", func := "loop.example/g00833/laws.FnExactIsOpenable", spec := "fnExactIsOpenable", unfollowed := true, recurses := true, apart := false }
def FnExactIsOpenableSaid : Prop := fnExactIsOpenableRow.holds Try.pinned (OpenSpec.ofChange fnExactIsOpenableSpec)

/-- ITS FALSE NEIGHBOUR: 'it returns false'. Refute it at one input. -/
def fnExactIsOpenableWrong : ChangeSpec := { name := "fnExactIsOpenable", fn := fun _ => fun
  | [d1, d2, d3] => { results := [.lit (.bool false)], args := [d1, d2, d3] }
  | _ => none }
def FnExactIsOpenableWrongFalsely : Prop := fnExactIsOpenableRow.holds Try.pinned (OpenSpec.ofChange fnExactIsOpenableWrong)

/-- 'laws.FnExactMissedErrors': WHATEVER THE INPUT: true; the input reads as it did. -/
def fnExactMissedErrorsSpec : ChangeSpec := { name := "fnExactMissedErrors", fn := fun _ => fun
  | [d1, d2, d3, d4] => { results := [.lit (.bool true)], args := [d1, d2, d3, d4] }
  | _ => none }
def fnExactMissedErrorsRow : OpenClaim := { program := "ytdcalkobcdeclaa", sum := "479381fc2e89332a2aa2baf9d90347c2619d0a6daac6981047c46aaa983d708c", func := "loop.example/g00833/laws.FnExactMissedErrors", spec := "fnExactMissedErrors", apart := false }
def FnExactMissedErrorsSaid : Prop := fnExactMissedErrorsRow.holds Try.pinned (OpenSpec.ofChange fnExactMissedErrorsSpec)

/-- ITS FALSE NEIGHBOUR: 'it returns false'. Refute it at one input. -/
def fnExactMissedErrorsWrong : ChangeSpec := { name := "fnExactMissedErrors", fn := fun _ => fun
  | [d1, d2, d3, d4] => { results := [.lit (.bool false)], args := [d1, d2, d3, d4] }
  | _ => none }
def FnExactMissedErrorsWrongFalsely : Prop := fnExactMissedErrorsRow.holds Try.pinned (OpenSpec.ofChange fnExactMissedErrorsWrong)

/- THE SECOND FORM. 'bulk': how many values and letters a reading holds, each counted each time it is reached (what is shared counts as often as it is met; a slice's spare places count too). A statement '..UptoSaid' is the law's where the arguments, and the package variables that the reading takes, are together of bulk at most 1048576: NARROWER than '..Said'. Prove '..Said' where nothing that the law and all that it calls make is longer than what came in: it says more and counts as full. Else prove '..UptoSaid'. A law counts once. -/
mutual
def uptoBulk {H : Type} : DataW H → Nat
  | .lit (.string bytes) => bytes.length + 1
  | .lit _ => 1
  | .nil => 1
  | .ptr d => uptoBulk d + 1
  | .slice elems spare => uptoBulkAll elems + uptoBulkAll spare + 1
  | .agg parts => uptoBulkAll parts + 1
  | .iface _ d => uptoBulk d + 1
  | .map entries => uptoBulkEntries entries + 1
  | .held _ => 1
def uptoBulkAll {H : Type} : List (DataW H) → Nat
  | [] => 0
  | d :: r => uptoBulk d + uptoBulkAll r
def uptoBulkEntries {H : Type} : List (Lit × DataW H) → Nat
  | [] => 0
  | x :: r => uptoBulkEntry x + uptoBulkEntries r
def uptoBulkEntry {H : Type} : Lit × DataW H → Nat
  | (.string bytes, d) => bytes.length + uptoBulk d + 1
  | (_, d) => uptoBulk d + 1
 end
def uptoSmall : (H : Type) → List (DataW H) → Bool := fun _ ds => decide (uptoBulkAll ds ≤ 1048576)
def OpenSpec.upto (s : _root_.Go.ChangeSpec) : _root_.Go.OpenSpec := { _root_.Go.OpenSpec.ofChange s with cond := some uptoSmall }

/-- 'laws.FnKinds', WHERE WHAT IT READS IS OF BULK AT MOST 1048576: true; the input reads as it did. -/
def fnKindsUptoRow : OpenClaim := { program := "ytdcalkobcdeclaa", sum := "479381fc2e89332a2aa2baf9d90347c2619d0a6daac6981047c46aaa983d708c", func := "loop.example/g00833/laws.FnKinds", spec := "fnKinds", unfollowed := true, recurses := true, apart := false, narrowed := true }
def FnKindsUptoSaid : Prop := fnKindsUptoRow.holds Try.pinned (OpenSpec.upto fnKindsSpec)

/-- 'laws.FnSeals', WHERE WHAT IT READS IS OF BULK AT MOST 1048576: true; the input reads as it did. -/
def fnSealsUptoRow : OpenClaim := { program := "ytdcalkobcdeclaa", sum := "479381fc2e89332a2aa2baf9d90347c2619d0a6daac6981047c46aaa983d708c", func := "loop.example/g00833/laws.FnSeals", spec := "fnSeals", unfollowed := true, recurses := true, apart := false, narrowed := true }
def FnSealsUptoSaid : Prop := fnSealsUptoRow.holds Try.pinned (OpenSpec.upto fnSealsSpec)

/-- 'laws.FnOpened', WHERE WHAT IT READS IS OF BULK AT MOST 1048576: true; the input reads as it did. -/
def fnOpenedUptoRow : OpenClaim := { program := "ytdcalkobcdeclaa", sum := "479381fc2e89332a2aa2baf9d90347c2619d0a6daac6981047c46aaa983d708c", func := "loop.example/g00833/laws.FnOpened", spec := "fnOpened", unfollowed := true, recurses := true, apart := false, narrowed := true }
def FnOpenedUptoSaid : Prop := fnOpenedUptoRow.holds Try.pinned (OpenSpec.upto fnOpenedSpec)

/-- 'laws.FnMissedErrors', WHERE WHAT IT READS IS OF BULK AT MOST 1048576: true; the input reads as it did. -/
def fnMissedErrorsUptoRow : OpenClaim := { program := "ytdcalkobcdeclaa", sum := "479381fc2e89332a2aa2baf9d90347c2619d0a6daac6981047c46aaa983d708c", func := "loop.example/g00833/laws.FnMissedErrors", spec := "fnMissedErrors", apart := false, narrowed := true }
def FnMissedErrorsUptoSaid : Prop := fnMissedErrorsUptoRow.holds Try.pinned (OpenSpec.upto fnMissedErrorsSpec)

/-- 'laws.FnDamagedSeals', WHERE WHAT IT READS IS OF BULK AT MOST 1048576: true; the input reads as it did. -/
def fnDamagedSealsUptoRow : OpenClaim := { program := "ytdcalkobcdeclaa", sum := "479381fc2e89332a2aa2baf9d90347c2619d0a6daac6981047c46aaa983d708c", func := "loop.example/g00833/laws.FnDamagedSeals", spec := "fnDamagedSeals", unfollowed := true, recurses := true, apart := false, narrowed := true }
def FnDamagedSealsUptoSaid : Prop := fnDamagedSealsUptoRow.holds Try.pinned (OpenSpec.upto fnDamagedSealsSpec)

/-- 'laws.FnExactSealFrame', WHERE WHAT IT READS IS OF BULK AT MOST 1048576: true; the input reads as it did. -/
def fnExactSealFrameUptoRow : OpenClaim := { program := "ytdcalkobcdeclaa", sum := "479381fc2e89332a2aa2baf9d90347c2619d0a6daac6981047c46aaa983d708c", func := "loop.example/g00833/laws.FnExactSealFrame", spec := "fnExactSealFrame", unfollowed := true, recurses := true, apart := false, narrowed := true }
def FnExactSealFrameUptoSaid : Prop := fnExactSealFrameUptoRow.holds Try.pinned (OpenSpec.upto fnExactSealFrameSpec)

/-- 'laws.FnExactOpenFrame', WHERE WHAT IT READS IS OF BULK AT MOST 1048576: true; the input reads as it did. -/
def fnExactOpenFrameUptoRow : OpenClaim := { program := "ytdcalkobcdeclaa", sum := "479381fc2e89332a2aa2baf9d90347c2619d0a6daac6981047c46aaa983d708c", func := "loop.example/g00833/laws.FnExactOpenFrame", spec := "fnExactOpenFrame", unfollowed := true, recurses := true, apart := false, narrowed := true }
def FnExactOpenFrameUptoSaid : Prop := fnExactOpenFrameUptoRow.holds Try.pinned (OpenSpec.upto fnExactOpenFrameSpec)

/-- 'laws.FnExactSealSize', WHERE WHAT IT READS IS OF BULK AT MOST 1048576: true; the input reads as it did. -/
def fnExactSealSizeUptoRow : OpenClaim := { program := "ytdcalkobcdeclaa", sum := "479381fc2e89332a2aa2baf9d90347c2619d0a6daac6981047c46aaa983d708c", func := "loop.example/g00833/laws.FnExactSealSize", spec := "fnExactSealSize", unfollowed := true, recurses := true, apart := false, narrowed := true }
def FnExactSealSizeUptoSaid : Prop := fnExactSealSizeUptoRow.holds Try.pinned (OpenSpec.upto fnExactSealSizeSpec)

/-- 'laws.FnExactSealNumber', WHERE WHAT IT READS IS OF BULK AT MOST 1048576: true; the input reads as it did. -/
def fnExactSealNumberUptoRow : OpenClaim := { program := "ytdcalkobcdeclaa", sum := "479381fc2e89332a2aa2baf9d90347c2619d0a6daac6981047c46aaa983d708c", func := "loop.example/g00833/laws.FnExactSealNumber", spec := "fnExactSealNumber", unfollowed := true, recurses := true, apart := false, narrowed := true }
def FnExactSealNumberUptoSaid : Prop := fnExactSealNumberUptoRow.holds Try.pinned (OpenSpec.upto fnExactSealNumberSpec)

/-- 'laws.FnExactIsOpenable', WHERE WHAT IT READS IS OF BULK AT MOST 1048576: true; the input reads as it did. -/
def fnExactIsOpenableUptoRow : OpenClaim := { program := "ytdcalkobcdeclaa", sum := "479381fc2e89332a2aa2baf9d90347c2619d0a6daac6981047c46aaa983d708c", func := "loop.example/g00833/laws.FnExactIsOpenable", spec := "fnExactIsOpenable", unfollowed := true, recurses := true, apart := false, narrowed := true }
def FnExactIsOpenableUptoSaid : Prop := fnExactIsOpenableUptoRow.holds Try.pinned (OpenSpec.upto fnExactIsOpenableSpec)

/-- 'laws.FnExactMissedErrors', WHERE WHAT IT READS IS OF BULK AT MOST 1048576: true; the input reads as it did. -/
def fnExactMissedErrorsUptoRow : OpenClaim := { program := "ytdcalkobcdeclaa", sum := "479381fc2e89332a2aa2baf9d90347c2619d0a6daac6981047c46aaa983d708c", func := "loop.example/g00833/laws.FnExactMissedErrors", spec := "fnExactMissedErrors", apart := false, narrowed := true }
def FnExactMissedErrorsUptoSaid : Prop := fnExactMissedErrorsUptoRow.holds Try.pinned (OpenSpec.upto fnExactMissedErrorsSpec)

end Rows
end Go.Proofs.Ytdcalkobcdeclaa
