/-
  No cell of these rows narrows 'for every input' (looked for: loops, veiled, ifaces, maps, wideKeys, modest, calm, conditions, laid).
  DERIVED. THE GIVEN ROWS OF THIS SEAT. 8 by the template 'for every input the law returns true; each argument reads behind the call as it read before'; 0 by the template 'total and deterministic' (their statements: YtfoflfmpbbpbgaaGreatTotals.lean).
  GIVEN WITH THE SEED: the statements are not yours to turn. If you find one false, say at which input.
  Laid BY PROGRAM, IN A SANDBOX (cutbox-rows.mjs): the forced cells as the released guide's own fill.sh prints them over the translation 51c45cee04d43ef6… (all of the seat's roots in one cut). By AI agents, Wed Nov 11 2026. No macro, syntax, notation, axiom, sorry.
-/
import Derived.Test.YtfoflfmpbbpbgaaGreatChecked
import GoSem.Claim
import GoSem.ClaimJoined
import GoSem.ClaimMapViews
import Derived.JoinedTies
import Derived.KernelRfl
namespace Go.Proofs.YtfoflfmpbbpbgaaGreat
/- THE CELL 'sum', in the pinned program and in every row, IS THE sha256 OF THE DUMP (.gsa) THAT YtfoflfmpbbpbgaaGreatProg.lean LOADS. Nothing in Lean hashes anything: it is a label: what it is worth is what the hold of that sum in a sandbox is worth. -/
noncomputable def Tryz.pinned : Pinned := { name := "ytfoflfmpbbpbgaagreat", sum := "51c45cee04d43ef621fec997518b0b22bbd6e2aba4c0bbf739413537ca3bb5df", checked := Tryz.checked }
namespace Rows
def none {H : Type} : Left H := { results := [], args := [] }

/-- 'laws.FnWellFormed': WHATEVER THE INPUT: true; the input reads as it did. -/
def fnWellFormedSpec : ChangeSpec := { name := "fnWellFormed", fn := fun _ => fun
  | [d] => { results := [.lit (.bool true)], args := [d] }
  | _ => none }
def fnWellFormedRow : OpenClaim := { program := "ytfoflfmpbbpbgaagreat", sum := "51c45cee04d43ef621fec997518b0b22bbd6e2aba4c0bbf739413537ca3bb5df", func := "loop.example/g00833/laws.FnWellFormed", spec := "fnWellFormed", unfollowed := true, recurses := true, plainKeys := false, apart := false }
def FnWellFormedSaid : Prop := fnWellFormedRow.holds Tryz.pinned (OpenSpec.ofChange fnWellFormedSpec)

/-- ITS FALSE NEIGHBOUR: 'it returns false'. Refute it at one input. -/
def fnWellFormedWrong : ChangeSpec := { name := "fnWellFormed", fn := fun _ => fun
  | [d] => { results := [.lit (.bool false)], args := [d] }
  | _ => none }
def FnWellFormedWrongFalsely : Prop := fnWellFormedRow.holds Tryz.pinned (OpenSpec.ofChange fnWellFormedWrong)

/-- 'laws.FnSenders': WHATEVER THE INPUT: true; the input reads as it did. -/
def fnSendersSpec : ChangeSpec := { name := "fnSenders", fn := fun _ => fun
  | [d] => { results := [.lit (.bool true)], args := [d] }
  | _ => none }
def fnSendersRow : OpenClaim := { program := "ytfoflfmpbbpbgaagreat", sum := "51c45cee04d43ef621fec997518b0b22bbd6e2aba4c0bbf739413537ca3bb5df", func := "loop.example/g00833/laws.FnSenders", spec := "fnSenders", unfollowed := true, recurses := true, plainKeys := false, apart := false }
def FnSendersSaid : Prop := fnSendersRow.holds Tryz.pinned (OpenSpec.ofChange fnSendersSpec)

/-- ITS FALSE NEIGHBOUR: 'it returns false'. Refute it at one input. -/
def fnSendersWrong : ChangeSpec := { name := "fnSenders", fn := fun _ => fun
  | [d] => { results := [.lit (.bool false)], args := [d] }
  | _ => none }
def FnSendersWrongFalsely : Prop := fnSendersRow.holds Tryz.pinned (OpenSpec.ofChange fnSendersWrong)

/-- 'laws.FnExactFirstFault': WHATEVER THE INPUT: true; the input reads as it did. -/
def fnExactFirstFaultSpec : ChangeSpec := { name := "fnExactFirstFault", fn := fun _ => fun
  | [d] => { results := [.lit (.bool true)], args := [d] }
  | _ => none }
def fnExactFirstFaultRow : OpenClaim := { program := "ytfoflfmpbbpbgaagreat", sum := "51c45cee04d43ef621fec997518b0b22bbd6e2aba4c0bbf739413537ca3bb5df", func := "loop.example/g00833/laws.FnExactFirstFault", spec := "fnExactFirstFault", unfollowed := true, recurses := true, plainKeys := false, apart := false }
def FnExactFirstFaultSaid : Prop := fnExactFirstFaultRow.holds Tryz.pinned (OpenSpec.ofChange fnExactFirstFaultSpec)

/-- ITS FALSE NEIGHBOUR: 'it returns false'. Refute it at one input. -/
def fnExactFirstFaultWrong : ChangeSpec := { name := "fnExactFirstFault", fn := fun _ => fun
  | [d] => { results := [.lit (.bool false)], args := [d] }
  | _ => none }
def FnExactFirstFaultWrongFalsely : Prop := fnExactFirstFaultRow.holds Tryz.pinned (OpenSpec.ofChange fnExactFirstFaultWrong)

/-- 'laws.FnExactIsMedl': WHATEVER THE INPUT: true; the input reads as it did. -/
def fnExactIsMedlSpec : ChangeSpec := { name := "fnExactIsMedl", fn := fun _ => fun
  | [d] => { results := [.lit (.bool true)], args := [d] }
  | _ => none }
def fnExactIsMedlRow : OpenClaim := { program := "ytfoflfmpbbpbgaagreat", sum := "51c45cee04d43ef621fec997518b0b22bbd6e2aba4c0bbf739413537ca3bb5df", func := "loop.example/g00833/laws.FnExactIsMedl", spec := "fnExactIsMedl", unfollowed := true, recurses := true, plainKeys := false, apart := false }
def FnExactIsMedlSaid : Prop := fnExactIsMedlRow.holds Tryz.pinned (OpenSpec.ofChange fnExactIsMedlSpec)

/-- ITS FALSE NEIGHBOUR: 'it returns false'. Refute it at one input. -/
def fnExactIsMedlWrong : ChangeSpec := { name := "fnExactIsMedl", fn := fun _ => fun
  | [d] => { results := [.lit (.bool false)], args := [d] }
  | _ => none }
def FnExactIsMedlWrongFalsely : Prop := fnExactIsMedlRow.holds Tryz.pinned (OpenSpec.ofChange fnExactIsMedlWrong)

/-- 'laws.FnExactCycleTime': WHATEVER THE INPUT: true; the input reads as it did. -/
def fnExactCycleTimeSpec : ChangeSpec := { name := "fnExactCycleTime", fn := fun _ => fun
  | [d1, d2] => { results := [.lit (.bool true)], args := [d1, d2] }
  | _ => none }
def fnExactCycleTimeRow : OpenClaim := { program := "ytfoflfmpbbpbgaagreat", sum := "51c45cee04d43ef621fec997518b0b22bbd6e2aba4c0bbf739413537ca3bb5df", func := "loop.example/g00833/laws.FnExactCycleTime", spec := "fnExactCycleTime", unfollowed := true, recurses := true, plainKeys := false, apart := false }
def FnExactCycleTimeSaid : Prop := fnExactCycleTimeRow.holds Tryz.pinned (OpenSpec.ofChange fnExactCycleTimeSpec)

/-- ITS FALSE NEIGHBOUR: 'it returns false'. Refute it at one input. -/
def fnExactCycleTimeWrong : ChangeSpec := { name := "fnExactCycleTime", fn := fun _ => fun
  | [d1, d2] => { results := [.lit (.bool false)], args := [d1, d2] }
  | _ => none }
def FnExactCycleTimeWrongFalsely : Prop := fnExactCycleTimeRow.holds Tryz.pinned (OpenSpec.ofChange fnExactCycleTimeWrong)

/-- 'laws.FnExactRoundTime': WHATEVER THE INPUT: true; the input reads as it did. -/
def fnExactRoundTimeSpec : ChangeSpec := { name := "fnExactRoundTime", fn := fun _ => fun
  | [d1, d2] => { results := [.lit (.bool true)], args := [d1, d2] }
  | _ => none }
def fnExactRoundTimeRow : OpenClaim := { program := "ytfoflfmpbbpbgaagreat", sum := "51c45cee04d43ef621fec997518b0b22bbd6e2aba4c0bbf739413537ca3bb5df", func := "loop.example/g00833/laws.FnExactRoundTime", spec := "fnExactRoundTime", unfollowed := true, recurses := true, plainKeys := false, apart := false }
def FnExactRoundTimeSaid : Prop := fnExactRoundTimeRow.holds Tryz.pinned (OpenSpec.ofChange fnExactRoundTimeSpec)

/-- ITS FALSE NEIGHBOUR: 'it returns false'. Refute it at one input. -/
def fnExactRoundTimeWrong : ChangeSpec := { name := "fnExactRoundTime", fn := fun _ => fun
  | [d1, d2] => { results := [.lit (.bool false)], args := [d1, d2] }
  | _ => none }
def FnExactRoundTimeWrongFalsely : Prop := fnExactRoundTimeRow.holds Tryz.pinned (OpenSpec.ofChange fnExactRoundTimeWrong)

/-- 'laws.FnExactWithId': WHATEVER THE INPUT: true; the input reads as it did. -/
def fnExactWithIdSpec : ChangeSpec := { name := "fnExactWithId", fn := fun _ => fun
  | [d1, d2] => { results := [.lit (.bool true)], args := [d1, d2] }
  | _ => none }
def fnExactWithIdRow : OpenClaim := { program := "ytfoflfmpbbpbgaagreat", sum := "51c45cee04d43ef621fec997518b0b22bbd6e2aba4c0bbf739413537ca3bb5df", func := "loop.example/g00833/laws.FnExactWithId", spec := "fnExactWithId", unfollowed := true, recurses := true, plainKeys := false, apart := false }
def FnExactWithIdSaid : Prop := fnExactWithIdRow.holds Tryz.pinned (OpenSpec.ofChange fnExactWithIdSpec)

/-- ITS FALSE NEIGHBOUR: 'it returns false'. Refute it at one input. -/
def fnExactWithIdWrong : ChangeSpec := { name := "fnExactWithId", fn := fun _ => fun
  | [d1, d2] => { results := [.lit (.bool false)], args := [d1, d2] }
  | _ => none }
def FnExactWithIdWrongFalsely : Prop := fnExactWithIdRow.holds Tryz.pinned (OpenSpec.ofChange fnExactWithIdWrong)

/-- 'laws.FnExactSenderOf': WHATEVER THE INPUT: true; the input reads as it did. -/
def fnExactSenderOfSpec : ChangeSpec := { name := "fnExactSenderOf", fn := fun _ => fun
  | [d1, d2, d3, d4] => { results := [.lit (.bool true)], args := [d1, d2, d3, d4] }
  | _ => none }
def fnExactSenderOfRow : OpenClaim := { program := "ytfoflfmpbbpbgaagreat", sum := "51c45cee04d43ef621fec997518b0b22bbd6e2aba4c0bbf739413537ca3bb5df", func := "loop.example/g00833/laws.FnExactSenderOf", spec := "fnExactSenderOf", unfollowed := true, recurses := true, plainKeys := false, apart := false }
def FnExactSenderOfSaid : Prop := fnExactSenderOfRow.holds Tryz.pinned (OpenSpec.ofChange fnExactSenderOfSpec)

/-- ITS FALSE NEIGHBOUR: 'it returns false'. Refute it at one input. -/
def fnExactSenderOfWrong : ChangeSpec := { name := "fnExactSenderOf", fn := fun _ => fun
  | [d1, d2, d3, d4] => { results := [.lit (.bool false)], args := [d1, d2, d3, d4] }
  | _ => none }
def FnExactSenderOfWrongFalsely : Prop := fnExactSenderOfRow.holds Tryz.pinned (OpenSpec.ofChange fnExactSenderOfWrong)

/- THE SECOND FORM. 'bulk': how many values and letters a reading holds, each counted each time it is reached (what is shared counts as often as it is met; a slice's spare places count too). A statement '..UptoSaid' is the law's where the arguments, and the package variables that the reading takes, are together of bulk at most 1048576: NARROWER than '..Said'. Prove '..Said' where nothing that the law and all that it calls make is longer than what came in: it says more and counts as full. Else prove '..UptoSaid'. A law counts once. -/
mutual
def uptoBulk {H : Type} : DataW H → Nat
  | .lit (.string bytes) => bytes.length + 1
  | .lit _ => 1
  | .nil => 1
  | .ptr d => uptoBulk d + 1
  | .slice elems spare => uptoBulkAll elems + uptoBulkAll spare + 1
  | .agg parts => uptoBulkAll parts + 1
  | .iface _ d => uptoBulk d + 1
  | .map entries => uptoBulkEntries entries + 1
  | .held _ => 1
def uptoBulkAll {H : Type} : List (DataW H) → Nat
  | [] => 0
  | d :: r => uptoBulk d + uptoBulkAll r
def uptoBulkEntries {H : Type} : List (Lit × DataW H) → Nat
  | [] => 0
  | x :: r => uptoBulkEntry x + uptoBulkEntries r
def uptoBulkEntry {H : Type} : Lit × DataW H → Nat
  | (.string bytes, d) => bytes.length + uptoBulk d + 1
  | (_, d) => uptoBulk d + 1
 end
def uptoSmall : (H : Type) → List (DataW H) → Bool := fun _ ds => decide (uptoBulkAll ds ≤ 1048576)
def OpenSpec.upto (s : _root_.Go.ChangeSpec) : _root_.Go.OpenSpec := { _root_.Go.OpenSpec.ofChange s with cond := some uptoSmall }

/-- 'laws.FnWellFormed', WHERE WHAT IT READS IS OF BULK AT MOST 1048576: true; the input reads as it did. -/
def fnWellFormedUptoRow : OpenClaim := { program := "ytfoflfmpbbpbgaagreat", sum := "51c45cee04d43ef621fec997518b0b22bbd6e2aba4c0bbf739413537ca3bb5df", func := "loop.example/g00833/laws.FnWellFormed", spec := "fnWellFormed", unfollowed := true, recurses := true, plainKeys := false, apart := false, narrowed := true }
def FnWellFormedUptoSaid : Prop := fnWellFormedUptoRow.holds Tryz.pinned (OpenSpec.upto fnWellFormedSpec)

/-- 'laws.FnSenders', WHERE WHAT IT READS IS OF BULK AT MOST 1048576: true; the input reads as it did. -/
def fnSendersUptoRow : OpenClaim := { program := "ytfoflfmpbbpbgaagreat", sum := "51c45cee04d43ef621fec997518b0b22bbd6e2aba4c0bbf739413537ca3bb5df", func := "loop.example/g00833/laws.FnSenders", spec := "fnSenders", unfollowed := true, recurses := true, plainKeys := false, apart := false, narrowed := true }
def FnSendersUptoSaid : Prop := fnSendersUptoRow.holds Tryz.pinned (OpenSpec.upto fnSendersSpec)

/-- 'laws.FnExactFirstFault', WHERE WHAT IT READS IS OF BULK AT MOST 1048576: true; the input reads as it did. -/
def fnExactFirstFaultUptoRow : OpenClaim := { program := "ytfoflfmpbbpbgaagreat", sum := "51c45cee04d43ef621fec997518b0b22bbd6e2aba4c0bbf739413537ca3bb5df", func := "loop.example/g00833/laws.FnExactFirstFault", spec := "fnExactFirstFault", unfollowed := true, recurses := true, plainKeys := false, apart := false, narrowed := true }
def FnExactFirstFaultUptoSaid : Prop := fnExactFirstFaultUptoRow.holds Tryz.pinned (OpenSpec.upto fnExactFirstFaultSpec)

/-- 'laws.FnExactIsMedl', WHERE WHAT IT READS IS OF BULK AT MOST 1048576: true; the input reads as it did. -/
def fnExactIsMedlUptoRow : OpenClaim := { program := "ytfoflfmpbbpbgaagreat", sum := "51c45cee04d43ef621fec997518b0b22bbd6e2aba4c0bbf739413537ca3bb5df", func := "loop.example/g00833/laws.FnExactIsMedl", spec := "fnExactIsMedl", unfollowed := true, recurses := true, plainKeys := false, apart := false, narrowed := true }
def FnExactIsMedlUptoSaid : Prop := fnExactIsMedlUptoRow.holds Tryz.pinned (OpenSpec.upto fnExactIsMedlSpec)

/-- 'laws.FnExactCycleTime', WHERE WHAT IT READS IS OF BULK AT MOST 1048576: true; the input reads as it did. -/
def fnExactCycleTimeUptoRow : OpenClaim := { program := "ytfoflfmpbbpbgaagreat", sum := "51c45cee04d43ef621fec997518b0b22bbd6e2aba4c0bbf739413537ca3bb5df", func := "loop.example/g00833/laws.FnExactCycleTime", spec := "fnExactCycleTime", unfollowed := true, recurses := true, plainKeys := false, apart := false, narrowed := true }
def FnExactCycleTimeUptoSaid : Prop := fnExactCycleTimeUptoRow.holds Tryz.pinned (OpenSpec.upto fnExactCycleTimeSpec)

/-- 'laws.FnExactRoundTime', WHERE WHAT IT READS IS OF BULK AT MOST 1048576: true; the input reads as it did. -/
def fnExactRoundTimeUptoRow : OpenClaim := { program := "ytfoflfmpbbpbgaagreat", sum := "51c45cee04d43ef621fec997518b0b22bbd6e2aba4c0bbf739413537ca3bb5df", func := "loop.example/g00833/laws.FnExactRoundTime", spec := "fnExactRoundTime", unfollowed := true, recurses := true, plainKeys := false, apart := false, narrowed := true }
def FnExactRoundTimeUptoSaid : Prop := fnExactRoundTimeUptoRow.holds Tryz.pinned (OpenSpec.upto fnExactRoundTimeSpec)

/-- 'laws.FnExactWithId', WHERE WHAT IT READS IS OF BULK AT MOST 1048576: true; the input reads as it did. -/
def fnExactWithIdUptoRow : OpenClaim := { program := "ytfoflfmpbbpbgaagreat", sum := "51c45cee04d43ef621fec997518b0b22bbd6e2aba4c0bbf739413537ca3bb5df", func := "loop.example/g00833/laws.FnExactWithId", spec := "fnExactWithId", unfollowed := true, recurses := true, plainKeys := false, apart := false, narrowed := true }
def FnExactWithIdUptoSaid : Prop := fnExactWithIdUptoRow.holds Tryz.pinned (OpenSpec.upto fnExactWithIdSpec)

/-- 'laws.FnExactSenderOf', WHERE WHAT IT READS IS OF BULK AT MOST 1048576: true; the input reads as it did. -/
def fnExactSenderOfUptoRow : OpenClaim := { program := "ytfoflfmpbbpbgaagreat", sum := "51c45cee04d43ef621fec997518b0b22bbd6e2aba4c0bbf739413537ca3bb5df", func := "loop.example/g00833/laws.FnExactSenderOf", spec := "fnExactSenderOf", unfollowed := true, recurses := true, plainKeys := false, apart := false, narrowed := true }
def FnExactSenderOfUptoSaid : Prop := fnExactSenderOfUptoRow.holds Tryz.pinned (OpenSpec.upto fnExactSenderOfSpec)

end Rows
end Go.Proofs.YtfoflfmpbbpbgaaGreat
