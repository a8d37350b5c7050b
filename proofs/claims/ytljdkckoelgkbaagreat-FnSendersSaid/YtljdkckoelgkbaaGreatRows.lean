/-
  No cell of these rows narrows 'for every input' (looked for: loops, veiled, ifaces, maps, wideKeys, modest, calm, conditions, laid).
  DERIVED. THE GIVEN ROWS OF THIS SEAT. 4 by the template 'for every input the law returns true; each argument reads behind the call as it read before'; 0 by the template 'total and deterministic' (their statements: YtljdkckoelgkbaaGreatTotals.lean).
  GIVEN WITH THE SEED: the statements are not yours to turn. If you find one false, say at which input.
  Laid BY PROGRAM, IN A SANDBOX (cutbox-rows.mjs): the forced cells as the released guide's own fill.sh prints them over the translation 5ed05a06e8d4373f… (all of the seat's roots in one cut). By AI agents, Wed Nov 11 2026. No macro, syntax, notation, axiom, sorry.
-/
import Derived.Test.YtljdkckoelgkbaaGreatChecked
import GoSem.Claim
import GoSem.ClaimJoined
import GoSem.ClaimMapViews
import Derived.JoinedTies
import Derived.KernelRfl
namespace Go.Proofs.YtljdkckoelgkbaaGreat
/- THE CELL 'sum', in the pinned program and in every row, IS THE sha256 OF THE DUMP (.gsa) THAT YtljdkckoelgkbaaGreatProg.lean LOADS. Nothing in Lean hashes anything: it is a label: what it is worth is what the hold of that sum in a sandbox is worth. -/
noncomputable def Tryz.pinned : Pinned := { name := "ytljdkckoelgkbaagreat", sum := "5ed05a06e8d4373f8e22be54af6030254949674ddc77acc3d4c9d4b4c3ab7361", checked := Tryz.checked }
namespace Rows
def none {H : Type} : Left H := { results := [], args := [] }

/-- 'laws.FnWellFormed': WHATEVER THE INPUT: true; the input reads as it did. -/
def fnWellFormedSpec : ChangeSpec := { name := "fnWellFormed", fn := fun _ => fun
  | [d] => { results := [.lit (.bool true)], args := [d] }
  | _ => none }
def fnWellFormedRow : OpenClaim := { program := "ytljdkckoelgkbaagreat", sum := "5ed05a06e8d4373f8e22be54af6030254949674ddc77acc3d4c9d4b4c3ab7361", func := "loop.example/g00833/laws.FnWellFormed", spec := "fnWellFormed", unfollowed := true, recurses := true, plainKeys := false, apart := false }
def FnWellFormedSaid : Prop := fnWellFormedRow.holds Tryz.pinned (OpenSpec.ofChange fnWellFormedSpec)

/-- ITS FALSE NEIGHBOUR: 'it returns false'. Refute it at one input. -/
def fnWellFormedWrong : ChangeSpec := { name := "fnWellFormed", fn := fun _ => fun
  | [d] => { results := [.lit (.bool false)], args := [d] }
  | _ => none }
def FnWellFormedWrongFalsely : Prop := fnWellFormedRow.holds Tryz.pinned (OpenSpec.ofChange fnWellFormedWrong)

/-- 'laws.FnSenders': WHATEVER THE INPUT: true; the input reads as it did. -/
def fnSendersSpec : ChangeSpec := { name := "fnSenders", fn := fun _ => fun
  | [d] => { results := [.lit (.bool true)], args := [d] }
  | _ => none }
def fnSendersRow : OpenClaim := { program := "ytljdkckoelgkbaagreat", sum := "5ed05a06e8d4373f8e22be54af6030254949674ddc77acc3d4c9d4b4c3ab7361", func := "loop.example/g00833/laws.FnSenders", spec := "fnSenders", unfollowed := true, recurses := true, plainKeys := false, apart := false }
def FnSendersSaid : Prop := fnSendersRow.holds Tryz.pinned (OpenSpec.ofChange fnSendersSpec)

/-- ITS FALSE NEIGHBOUR: 'it returns false'. Refute it at one input. -/
def fnSendersWrong : ChangeSpec := { name := "fnSenders", fn := fun _ => fun
  | [d] => { results := [.lit (.bool false)], args := [d] }
  | _ => none }
def FnSendersWrongFalsely : Prop := fnSendersRow.holds Tryz.pinned (OpenSpec.ofChange fnSendersWrong)

/-- 'laws.FnExactScheduleBytes': WHATEVER THE INPUT: true; the input reads as it did. -/
def fnExactScheduleBytesSpec : ChangeSpec := { name := "fnExactScheduleBytes", fn := fun _ => fun
  | [d] => { results := [.lit (.bool true)], args := [d] }
  | _ => none }
def fnExactScheduleBytesRow : OpenClaim := { program := "ytljdkckoelgkbaagreat", sum := "5ed05a06e8d4373f8e22be54af6030254949674ddc77acc3d4c9d4b4c3ab7361", func := "loop.example/g00833/laws.FnExactScheduleBytes", spec := "fnExactScheduleBytes", unfollowed := true, recurses := true, plainKeys := false, apart := false }
def FnExactScheduleBytesSaid : Prop := fnExactScheduleBytesRow.holds Tryz.pinned (OpenSpec.ofChange fnExactScheduleBytesSpec)

/-- ITS FALSE NEIGHBOUR: 'it returns false'. Refute it at one input. -/
def fnExactScheduleBytesWrong : ChangeSpec := { name := "fnExactScheduleBytes", fn := fun _ => fun
  | [d] => { results := [.lit (.bool false)], args := [d] }
  | _ => none }
def FnExactScheduleBytesWrongFalsely : Prop := fnExactScheduleBytesRow.holds Tryz.pinned (OpenSpec.ofChange fnExactScheduleBytesWrong)

/-- 'laws.FnExactEncodeImage': WHATEVER THE INPUT: true; the input reads as it did. -/
def fnExactEncodeImageSpec : ChangeSpec := { name := "fnExactEncodeImage", fn := fun _ => fun
  | [d] => { results := [.lit (.bool true)], args := [d] }
  | _ => none }
def fnExactEncodeImageRow : OpenClaim := { program := "ytljdkckoelgkbaagreat", sum := "5ed05a06e8d4373f8e22be54af6030254949674ddc77acc3d4c9d4b4c3ab7361", func := "loop.example/g00833/laws.FnExactEncodeImage", spec := "fnExactEncodeImage", unfollowed := true, recurses := true, plainKeys := false, apart := false }
def FnExactEncodeImageSaid : Prop := fnExactEncodeImageRow.holds Tryz.pinned (OpenSpec.ofChange fnExactEncodeImageSpec)

/-- ITS FALSE NEIGHBOUR: 'it returns false'. Refute it at one input. -/
def fnExactEncodeImageWrong : ChangeSpec := { name := "fnExactEncodeImage", fn := fun _ => fun
  | [d] => { results := [.lit (.bool false)], args := [d] }
  | _ => none }
def FnExactEncodeImageWrongFalsely : Prop := fnExactEncodeImageRow.holds Tryz.pinned (OpenSpec.ofChange fnExactEncodeImageWrong)

/- THE SECOND FORM. 'bulk': how many values and letters a reading holds, each counted each time it is reached (what is shared counts as often as it is met; a slice's spare places count too). A statement '..UptoSaid' is the law's where the arguments, and the package variables that the reading takes, are together of bulk at most 1048576: NARROWER than '..Said'. Prove '..Said' where nothing that the law and all that it calls make is longer than what came in: it says more and counts as full. Else prove '..UptoSaid'. A law counts once. -/
mutual
def uptoBulk {H : Type} : DataW H → Nat
  | .lit (.string bytes) => bytes.length + 1
  | .lit _ => 1
  | .nil => 1
  | .ptr d => uptoBulk d + 1
  | .slice elems spare => uptoBulkAll elems + uptoBulkAll spare + 1
  | .agg parts => uptoBulkAll parts + 1
  | .iface _ d => uptoBulk d + 1
  | .map entries => uptoBulkEntries entries + 1
  | .held _ => 1
def uptoBulkAll {H : Type} : List (DataW H) → Nat
  | [] => 0
  | d :: r => uptoBulk d + uptoBulkAll r
def uptoBulkEntries {H : Type} : List (Lit × DataW H) → Nat
  | [] => 0
  | x :: r => uptoBulkEntry x + uptoBulkEntries r
def uptoBulkEntry {H : Type} : Lit × DataW H → Nat
  | (.string bytes, d) => bytes.length + uptoBulk d + 1
  | (_, d) => uptoBulk d + 1
 end
def uptoSmall : (H : Type) → List (DataW H) → Bool := fun _ ds => decide (uptoBulkAll ds ≤ 1048576)
def OpenSpec.upto (s : _root_.Go.ChangeSpec) : _root_.Go.OpenSpec := { _root_.Go.OpenSpec.ofChange s with cond := some uptoSmall }

/-- 'laws.FnWellFormed', WHERE WHAT IT READS IS OF BULK AT MOST 1048576: true; the input reads as it did. -/
def fnWellFormedUptoRow : OpenClaim := { program := "ytljdkckoelgkbaagreat", sum := "5ed05a06e8d4373f8e22be54af6030254949674ddc77acc3d4c9d4b4c3ab7361", func := "loop.example/g00833/laws.FnWellFormed", spec := "fnWellFormed", unfollowed := true, recurses := true, plainKeys := false, apart := false, narrowed := true }
def FnWellFormedUptoSaid : Prop := fnWellFormedUptoRow.holds Tryz.pinned (OpenSpec.upto fnWellFormedSpec)

/-- 'laws.FnSenders', WHERE WHAT IT READS IS OF BULK AT MOST 1048576: true; the input reads as it did. -/
def fnSendersUptoRow : OpenClaim := { program := "ytljdkckoelgkbaagreat", sum := "5ed05a06e8d4373f8e22be54af6030254949674ddc77acc3d4c9d4b4c3ab7361", func := "loop.example/g00833/laws.FnSenders", spec := "fnSenders", unfollowed := true, recurses := true, plainKeys := false, apart := false, narrowed := true }
def FnSendersUptoSaid : Prop := fnSendersUptoRow.holds Tryz.pinned (OpenSpec.upto fnSendersSpec)

/-- 'laws.FnExactScheduleBytes', WHERE WHAT IT READS IS OF BULK AT MOST 1048576: true; the input reads as it did. -/
def fnExactScheduleBytesUptoRow : OpenClaim := { program := "ytljdkckoelgkbaagreat", sum := "5ed05a06e8d4373f8e22be54af6030254949674ddc77acc3d4c9d4b4c3ab7361", func := "loop.example/g00833/laws.FnExactScheduleBytes", spec := "fnExactScheduleBytes", unfollowed := true, recurses := true, plainKeys := false, apart := false, narrowed := true }
def FnExactScheduleBytesUptoSaid : Prop := fnExactScheduleBytesUptoRow.holds Tryz.pinned (OpenSpec.upto fnExactScheduleBytesSpec)

/-- 'laws.FnExactEncodeImage', WHERE WHAT IT READS IS OF BULK AT MOST 1048576: true; the input reads as it did. -/
def fnExactEncodeImageUptoRow : OpenClaim := { program := "ytljdkckoelgkbaagreat", sum := "5ed05a06e8d4373f8e22be54af6030254949674ddc77acc3d4c9d4b4c3ab7361", func := "loop.example/g00833/laws.FnExactEncodeImage", spec := "fnExactEncodeImage", unfollowed := true, recurses := true, plainKeys := false, apart := false, narrowed := true }
def FnExactEncodeImageUptoSaid : Prop := fnExactEncodeImageUptoRow.holds Tryz.pinned (OpenSpec.upto fnExactEncodeImageSpec)

end Rows
end Go.Proofs.YtljdkckoelgkbaaGreat
