/-
  No cell of these rows narrows 'for every input' (looked for: loops, veiled, ifaces, maps, wideKeys, modest, calm, conditions, laid).
  DERIVED. THE GIVEN ROWS OF THIS SEAT. 13 by the template 'for every input the law returns true; each argument reads behind the call as it read before'; 0 by the template 'total and deterministic' (their statements: YthihjhidjnadaaaGreatTotals.lean).
  GIVEN WITH THE SEED: the statements are not yours to turn. If you find one false, say at which input.
  Laid BY PROGRAM, IN A SANDBOX (cutbox-rows.mjs): the forced cells as the released guide's own fill.sh prints them over the translation 9a46ccd85df9995d… (all of the seat's roots in one cut). By AI agents, Wed Nov 11 2026. No macro, syntax, notation, axiom, sorry.
-/
import Derived.Test.YthihjhidjnadaaaGreatChecked
import GoSem.Claim
import GoSem.ClaimJoined
import GoSem.ClaimMapViews
import Derived.JoinedTies
import Derived.KernelRfl
namespace Go.Proofs.YthihjhidjnadaaaGreat
/- THE CELL 'sum', in the pinned program and in every row, IS THE sha256 OF THE DUMP (.gsa) THAT YthihjhidjnadaaaGreatProg.lean LOADS. Nothing in Lean hashes anything: it is a label: what it is worth is what the hold of that sum in a sandbox is worth. -/
noncomputable def Tryz.pinned : Pinned := { name := "ythihjhidjnadaaagreat", sum := "9a46ccd85df9995db9c7dfe9698609943ccdf88f0e87298c41dcaf20e36f8e13", checked := Tryz.checked }
namespace Rows
def none {H : Type} : Left H := { results := [], args := [] }

/-- 'laws.FnCyclesOfStates': WHATEVER THE INPUT: true; the input reads as it did. -/
def fnCyclesOfStatesSpec : ChangeSpec := { name := "fnCyclesOfStates", fn := fun _ => fun
  | [d] => { results := [.lit (.bool true)], args := [d] }
  | _ => none }
def fnCyclesOfStatesRow : OpenClaim := { program := "ythihjhidjnadaaagreat", sum := "9a46ccd85df9995db9c7dfe9698609943ccdf88f0e87298c41dcaf20e36f8e13", func := "loop.example/g00833/laws.FnCyclesOfStates", spec := "fnCyclesOfStates", unfollowed := true, recurses := true, apart := false }
def FnCyclesOfStatesSaid : Prop := fnCyclesOfStatesRow.holds Tryz.pinned (OpenSpec.ofChange fnCyclesOfStatesSpec)

/-- ITS FALSE NEIGHBOUR: 'it returns false'. Refute it at one input. -/
def fnCyclesOfStatesWrong : ChangeSpec := { name := "fnCyclesOfStates", fn := fun _ => fun
  | [d] => { results := [.lit (.bool false)], args := [d] }
  | _ => none }
def FnCyclesOfStatesWrongFalsely : Prop := fnCyclesOfStatesRow.holds Tryz.pinned (OpenSpec.ofChange fnCyclesOfStatesWrong)

/-- 'laws.FnSlotTimes': WHATEVER THE INPUT: true; the input reads as it did. -/
def fnSlotTimesSpec : ChangeSpec := { name := "fnSlotTimes", fn := fun _ => fun
  | [d] => { results := [.lit (.bool true)], args := [d] }
  | _ => none }
def fnSlotTimesRow : OpenClaim := { program := "ythihjhidjnadaaagreat", sum := "9a46ccd85df9995db9c7dfe9698609943ccdf88f0e87298c41dcaf20e36f8e13", func := "loop.example/g00833/laws.FnSlotTimes", spec := "fnSlotTimes", inPlace := ["sync/atomic.LoadUint32", "(*internal/sync.Mutex).Lock", "internal/race.Disable", "sync/atomic.CompareAndSwapInt32", "internal/race.Enable", "internal/race.Acquire", "(*internal/sync.Mutex).lockSlow", "internal/sync.runtime_canSpin", "internal/sync.runtime_doSpin", "internal/sync.throw", "internal/sync.runtime_nanotime", "internal/sync.runtime_SemacquireMutex", "sync/atomic.AddInt32", "(*internal/sync.Mutex).Unlock", "internal/race.ReleaseMerge", "(*internal/sync.Mutex).unlockSlow", "internal/sync.fatal", "internal/sync.runtime_Semrelease", "sync/atomic.StoreUint32"], unfollowed := true, recurses := true, apart := false }
def FnSlotTimesSaid : Prop := fnSlotTimesRow.holds Tryz.pinned (OpenSpec.ofChange fnSlotTimesSpec)

/-- ITS FALSE NEIGHBOUR: 'it returns false'. Refute it at one input. -/
def fnSlotTimesWrong : ChangeSpec := { name := "fnSlotTimes", fn := fun _ => fun
  | [d] => { results := [.lit (.bool false)], args := [d] }
  | _ => none }
def FnSlotTimesWrongFalsely : Prop := fnSlotTimesRow.holds Tryz.pinned (OpenSpec.ofChange fnSlotTimesWrong)

/-- 'laws.FnGaps': WHATEVER THE INPUT: true; the input reads as it did. -/
def fnGapsSpec : ChangeSpec := { name := "fnGaps", fn := fun _ => fun
  | [d] => { results := [.lit (.bool true)], args := [d] }
  | _ => none }
def fnGapsRow : OpenClaim := { program := "ythihjhidjnadaaagreat", sum := "9a46ccd85df9995db9c7dfe9698609943ccdf88f0e87298c41dcaf20e36f8e13", func := "loop.example/g00833/laws.FnGaps", spec := "fnGaps", unfollowed := true, recurses := true, apart := false }
def FnGapsSaid : Prop := fnGapsRow.holds Tryz.pinned (OpenSpec.ofChange fnGapsSpec)

/-- ITS FALSE NEIGHBOUR: 'it returns false'. Refute it at one input. -/
def fnGapsWrong : ChangeSpec := { name := "fnGaps", fn := fun _ => fun
  | [d] => { results := [.lit (.bool false)], args := [d] }
  | _ => none }
def FnGapsWrongFalsely : Prop := fnGapsRow.holds Tryz.pinned (OpenSpec.ofChange fnGapsWrong)

/-- 'laws.FnUse': WHATEVER THE INPUT: true; the input reads as it did. -/
def fnUseSpec : ChangeSpec := { name := "fnUse", fn := fun _ => fun
  | [d] => { results := [.lit (.bool true)], args := [d] }
  | _ => none }
def fnUseRow : OpenClaim := { program := "ythihjhidjnadaaagreat", sum := "9a46ccd85df9995db9c7dfe9698609943ccdf88f0e87298c41dcaf20e36f8e13", func := "loop.example/g00833/laws.FnUse", spec := "fnUse", unfollowed := true, recurses := true, apart := false }
def FnUseSaid : Prop := fnUseRow.holds Tryz.pinned (OpenSpec.ofChange fnUseSpec)

/-- ITS FALSE NEIGHBOUR: 'it returns false'. Refute it at one input. -/
def fnUseWrong : ChangeSpec := { name := "fnUse", fn := fun _ => fun
  | [d] => { results := [.lit (.bool false)], args := [d] }
  | _ => none }
def FnUseWrongFalsely : Prop := fnUseRow.holds Tryz.pinned (OpenSpec.ofChange fnUseWrong)

/-- 'laws.FnChains': WHATEVER THE INPUT: true; the input reads as it did. -/
def fnChainsSpec : ChangeSpec := { name := "fnChains", fn := fun _ => fun
  | [d] => { results := [.lit (.bool true)], args := [d] }
  | _ => none }
def fnChainsRow : OpenClaim := { program := "ythihjhidjnadaaagreat", sum := "9a46ccd85df9995db9c7dfe9698609943ccdf88f0e87298c41dcaf20e36f8e13", func := "loop.example/g00833/laws.FnChains", spec := "fnChains", unfollowed := true, recurses := true, apart := false }
def FnChainsSaid : Prop := fnChainsRow.holds Tryz.pinned (OpenSpec.ofChange fnChainsSpec)

/-- ITS FALSE NEIGHBOUR: 'it returns false'. Refute it at one input. -/
def fnChainsWrong : ChangeSpec := { name := "fnChains", fn := fun _ => fun
  | [d] => { results := [.lit (.bool false)], args := [d] }
  | _ => none }
def FnChainsWrongFalsely : Prop := fnChainsRow.holds Tryz.pinned (OpenSpec.ofChange fnChainsWrong)

/-- 'laws.FnExactStatesOfCycle': WHATEVER THE INPUT: true; the input reads as it did. -/
def fnExactStatesOfCycleSpec : ChangeSpec := { name := "fnExactStatesOfCycle", fn := fun _ => fun
  | [d1, d2] => { results := [.lit (.bool true)], args := [d1, d2] }
  | _ => none }
def fnExactStatesOfCycleRow : OpenClaim := { program := "ythihjhidjnadaaagreat", sum := "9a46ccd85df9995db9c7dfe9698609943ccdf88f0e87298c41dcaf20e36f8e13", func := "loop.example/g00833/laws.FnExactStatesOfCycle", spec := "fnExactStatesOfCycle", unfollowed := true, recurses := true, apart := false }
def FnExactStatesOfCycleSaid : Prop := fnExactStatesOfCycleRow.holds Tryz.pinned (OpenSpec.ofChange fnExactStatesOfCycleSpec)

/-- ITS FALSE NEIGHBOUR: 'it returns false'. Refute it at one input. -/
def fnExactStatesOfCycleWrong : ChangeSpec := { name := "fnExactStatesOfCycle", fn := fun _ => fun
  | [d1, d2] => { results := [.lit (.bool false)], args := [d1, d2] }
  | _ => none }
def FnExactStatesOfCycleWrongFalsely : Prop := fnExactStatesOfCycleRow.holds Tryz.pinned (OpenSpec.ofChange fnExactStatesOfCycleWrong)

/-- 'laws.FnExactGapsOf': WHATEVER THE INPUT: true; the input reads as it did. -/
def fnExactGapsOfSpec : ChangeSpec := { name := "fnExactGapsOf", fn := fun _ => fun
  | [d1, d2, d3] => { results := [.lit (.bool true)], args := [d1, d2, d3] }
  | _ => none }
def fnExactGapsOfRow : OpenClaim := { program := "ythihjhidjnadaaagreat", sum := "9a46ccd85df9995db9c7dfe9698609943ccdf88f0e87298c41dcaf20e36f8e13", func := "loop.example/g00833/laws.FnExactGapsOf", spec := "fnExactGapsOf", unfollowed := true, recurses := true, apart := false }
def FnExactGapsOfSaid : Prop := fnExactGapsOfRow.holds Tryz.pinned (OpenSpec.ofChange fnExactGapsOfSpec)

/-- ITS FALSE NEIGHBOUR: 'it returns false'. Refute it at one input. -/
def fnExactGapsOfWrong : ChangeSpec := { name := "fnExactGapsOf", fn := fun _ => fun
  | [d1, d2, d3] => { results := [.lit (.bool false)], args := [d1, d2, d3] }
  | _ => none }
def FnExactGapsOfWrongFalsely : Prop := fnExactGapsOfRow.holds Tryz.pinned (OpenSpec.ofChange fnExactGapsOfWrong)

/-- 'laws.FnExactWorstGap': WHATEVER THE INPUT: true; the input reads as it did. -/
def fnExactWorstGapSpec : ChangeSpec := { name := "fnExactWorstGap", fn := fun _ => fun
  | [d1, d2, d3] => { results := [.lit (.bool true)], args := [d1, d2, d3] }
  | _ => none }
def fnExactWorstGapRow : OpenClaim := { program := "ythihjhidjnadaaagreat", sum := "9a46ccd85df9995db9c7dfe9698609943ccdf88f0e87298c41dcaf20e36f8e13", func := "loop.example/g00833/laws.FnExactWorstGap", spec := "fnExactWorstGap", unfollowed := true, recurses := true, apart := false }
def FnExactWorstGapSaid : Prop := fnExactWorstGapRow.holds Tryz.pinned (OpenSpec.ofChange fnExactWorstGapSpec)

/-- ITS FALSE NEIGHBOUR: 'it returns false'. Refute it at one input. -/
def fnExactWorstGapWrong : ChangeSpec := { name := "fnExactWorstGap", fn := fun _ => fun
  | [d1, d2, d3] => { results := [.lit (.bool false)], args := [d1, d2, d3] }
  | _ => none }
def FnExactWorstGapWrongFalsely : Prop := fnExactWorstGapRow.holds Tryz.pinned (OpenSpec.ofChange fnExactWorstGapWrong)

/-- 'laws.FnExactJitterOf': WHATEVER THE INPUT: true; the input reads as it did. -/
def fnExactJitterOfSpec : ChangeSpec := { name := "fnExactJitterOf", fn := fun _ => fun
  | [d1, d2, d3] => { results := [.lit (.bool true)], args := [d1, d2, d3] }
  | _ => none }
def fnExactJitterOfRow : OpenClaim := { program := "ythihjhidjnadaaagreat", sum := "9a46ccd85df9995db9c7dfe9698609943ccdf88f0e87298c41dcaf20e36f8e13", func := "loop.example/g00833/laws.FnExactJitterOf", spec := "fnExactJitterOf", unfollowed := true, recurses := true, apart := false }
def FnExactJitterOfSaid : Prop := fnExactJitterOfRow.holds Tryz.pinned (OpenSpec.ofChange fnExactJitterOfSpec)

/-- ITS FALSE NEIGHBOUR: 'it returns false'. Refute it at one input. -/
def fnExactJitterOfWrong : ChangeSpec := { name := "fnExactJitterOf", fn := fun _ => fun
  | [d1, d2, d3] => { results := [.lit (.bool false)], args := [d1, d2, d3] }
  | _ => none }
def FnExactJitterOfWrongFalsely : Prop := fnExactJitterOfRow.holds Tryz.pinned (OpenSpec.ofChange fnExactJitterOfWrong)

/-- 'laws.FnExactPayloadOf': WHATEVER THE INPUT: true; the input reads as it did. -/
def fnExactPayloadOfSpec : ChangeSpec := { name := "fnExactPayloadOf", fn := fun _ => fun
  | [d1, d2, d3] => { results := [.lit (.bool true)], args := [d1, d2, d3] }
  | _ => none }
def fnExactPayloadOfRow : OpenClaim := { program := "ythihjhidjnadaaagreat", sum := "9a46ccd85df9995db9c7dfe9698609943ccdf88f0e87298c41dcaf20e36f8e13", func := "loop.example/g00833/laws.FnExactPayloadOf", spec := "fnExactPayloadOf", unfollowed := true, recurses := true, apart := false }
def FnExactPayloadOfSaid : Prop := fnExactPayloadOfRow.holds Tryz.pinned (OpenSpec.ofChange fnExactPayloadOfSpec)

/-- ITS FALSE NEIGHBOUR: 'it returns false'. Refute it at one input. -/
def fnExactPayloadOfWrong : ChangeSpec := { name := "fnExactPayloadOf", fn := fun _ => fun
  | [d1, d2, d3] => { results := [.lit (.bool false)], args := [d1, d2, d3] }
  | _ => none }
def FnExactPayloadOfWrongFalsely : Prop := fnExactPayloadOfRow.holds Tryz.pinned (OpenSpec.ofChange fnExactPayloadOfWrong)

/-- 'laws.FnExactUseOf': WHATEVER THE INPUT: true; the input reads as it did. -/
def fnExactUseOfSpec : ChangeSpec := { name := "fnExactUseOf", fn := fun _ => fun
  | [d1, d2] => { results := [.lit (.bool true)], args := [d1, d2] }
  | _ => none }
def fnExactUseOfRow : OpenClaim := { program := "ythihjhidjnadaaagreat", sum := "9a46ccd85df9995db9c7dfe9698609943ccdf88f0e87298c41dcaf20e36f8e13", func := "loop.example/g00833/laws.FnExactUseOf", spec := "fnExactUseOf", unfollowed := true, recurses := true, apart := false }
def FnExactUseOfSaid : Prop := fnExactUseOfRow.holds Tryz.pinned (OpenSpec.ofChange fnExactUseOfSpec)

/-- ITS FALSE NEIGHBOUR: 'it returns false'. Refute it at one input. -/
def fnExactUseOfWrong : ChangeSpec := { name := "fnExactUseOf", fn := fun _ => fun
  | [d1, d2] => { results := [.lit (.bool false)], args := [d1, d2] }
  | _ => none }
def FnExactUseOfWrongFalsely : Prop := fnExactUseOfRow.holds Tryz.pinned (OpenSpec.ofChange fnExactUseOfWrong)

/-- 'laws.FnExactChainTime': WHATEVER THE INPUT: true; the input reads as it did. -/
def fnExactChainTimeSpec : ChangeSpec := { name := "fnExactChainTime", fn := fun _ => fun
  | [d1, d2, d3, d4] => { results := [.lit (.bool true)], args := [d1, d2, d3, d4] }
  | _ => none }
def fnExactChainTimeRow : OpenClaim := { program := "ythihjhidjnadaaagreat", sum := "9a46ccd85df9995db9c7dfe9698609943ccdf88f0e87298c41dcaf20e36f8e13", func := "loop.example/g00833/laws.FnExactChainTime", spec := "fnExactChainTime", unfollowed := true, recurses := true, apart := false }
def FnExactChainTimeSaid : Prop := fnExactChainTimeRow.holds Tryz.pinned (OpenSpec.ofChange fnExactChainTimeSpec)

/-- ITS FALSE NEIGHBOUR: 'it returns false'. Refute it at one input. -/
def fnExactChainTimeWrong : ChangeSpec := { name := "fnExactChainTime", fn := fun _ => fun
  | [d1, d2, d3, d4] => { results := [.lit (.bool false)], args := [d1, d2, d3, d4] }
  | _ => none }
def FnExactChainTimeWrongFalsely : Prop := fnExactChainTimeRow.holds Tryz.pinned (OpenSpec.ofChange fnExactChainTimeWrong)

/-- 'laws.FnExactSlackOf': WHATEVER THE INPUT: true; the input reads as it did. -/
def fnExactSlackOfSpec : ChangeSpec := { name := "fnExactSlackOf", fn := fun _ => fun
  | [d1, d2] => { results := [.lit (.bool true)], args := [d1, d2] }
  | _ => none }
def fnExactSlackOfRow : OpenClaim := { program := "ythihjhidjnadaaagreat", sum := "9a46ccd85df9995db9c7dfe9698609943ccdf88f0e87298c41dcaf20e36f8e13", func := "loop.example/g00833/laws.FnExactSlackOf", spec := "fnExactSlackOf", unfollowed := true, recurses := true, apart := false }
def FnExactSlackOfSaid : Prop := fnExactSlackOfRow.holds Tryz.pinned (OpenSpec.ofChange fnExactSlackOfSpec)

/-- ITS FALSE NEIGHBOUR: 'it returns false'. Refute it at one input. -/
def fnExactSlackOfWrong : ChangeSpec := { name := "fnExactSlackOf", fn := fun _ => fun
  | [d1, d2] => { results := [.lit (.bool false)], args := [d1, d2] }
  | _ => none }
def FnExactSlackOfWrongFalsely : Prop := fnExactSlackOfRow.holds Tryz.pinned (OpenSpec.ofChange fnExactSlackOfWrong)

/- THE SECOND FORM. 'bulk': how many values and letters a reading holds, each counted each time it is reached (what is shared counts as often as it is met; a slice's spare places count too). A statement '..UptoSaid' is the law's where the arguments, and the package variables that the reading takes, are together of bulk at most 1048576: NARROWER than '..Said'. Prove '..Said' where nothing that the law and all that it calls make is longer than what came in: it says more and counts as full. Else prove '..UptoSaid'. A law counts once. -/
mutual
def uptoBulk {H : Type} : DataW H → Nat
  | .lit (.string bytes) => bytes.length + 1
  | .lit _ => 1
  | .nil => 1
  | .ptr d => uptoBulk d + 1
  | .slice elems spare => uptoBulkAll elems + uptoBulkAll spare + 1
  | .agg parts => uptoBulkAll parts + 1
  | .iface _ d => uptoBulk d + 1
  | .map entries => uptoBulkEntries entries + 1
  | .held _ => 1
def uptoBulkAll {H : Type} : List (DataW H) → Nat
  | [] => 0
  | d :: r => uptoBulk d + uptoBulkAll r
def uptoBulkEntries {H : Type} : List (Lit × DataW H) → Nat
  | [] => 0
  | x :: r => uptoBulkEntry x + uptoBulkEntries r
def uptoBulkEntry {H : Type} : Lit × DataW H → Nat
  | (.string bytes, d) => bytes.length + uptoBulk d + 1
  | (_, d) => uptoBulk d + 1
 end
def uptoSmall : (H : Type) → List (DataW H) → Bool := fun _ ds => decide (uptoBulkAll ds ≤ 1048576)
def OpenSpec.upto (s : _root_.Go.ChangeSpec) : _root_.Go.OpenSpec := { _root_.Go.OpenSpec.ofChange s with cond := some uptoSmall }

/-- 'laws.FnCyclesOfStates', WHERE WHAT IT READS IS OF BULK AT MOST 1048576: true; the input reads as it did. -/
def fnCyclesOfStatesUptoRow : OpenClaim := { program := "ythihjhidjnadaaagreat", sum := "9a46ccd85df9995db9c7dfe9698609943ccdf88f0e87298c41dcaf20e36f8e13", func := "loop.example/g00833/laws.FnCyclesOfStates", spec := "fnCyclesOfStates", unfollowed := true, recurses := true, apart := false, narrowed := true }
def FnCyclesOfStatesUptoSaid : Prop := fnCyclesOfStatesUptoRow.holds Tryz.pinned (OpenSpec.upto fnCyclesOfStatesSpec)

/-- 'laws.FnSlotTimes', WHERE WHAT IT READS IS OF BULK AT MOST 1048576: true; the input reads as it did. -/
def fnSlotTimesUptoRow : OpenClaim := { program := "ythihjhidjnadaaagreat", sum := "9a46ccd85df9995db9c7dfe9698609943ccdf88f0e87298c41dcaf20e36f8e13", func := "loop.example/g00833/laws.FnSlotTimes", spec := "fnSlotTimes", inPlace := ["sync/atomic.LoadUint32", "(*internal/sync.Mutex).Lock", "internal/race.Disable", "sync/atomic.CompareAndSwapInt32", "internal/race.Enable", "internal/race.Acquire", "(*internal/sync.Mutex).lockSlow", "internal/sync.runtime_canSpin", "internal/sync.runtime_doSpin", "internal/sync.throw", "internal/sync.runtime_nanotime", "internal/sync.runtime_SemacquireMutex", "sync/atomic.AddInt32", "(*internal/sync.Mutex).Unlock", "internal/race.ReleaseMerge", "(*internal/sync.Mutex).unlockSlow", "internal/sync.fatal", "internal/sync.runtime_Semrelease", "sync/atomic.StoreUint32"], unfollowed := true, recurses := true, apart := false, narrowed := true }
def FnSlotTimesUptoSaid : Prop := fnSlotTimesUptoRow.holds Tryz.pinned (OpenSpec.upto fnSlotTimesSpec)

/-- 'laws.FnGaps', WHERE WHAT IT READS IS OF BULK AT MOST 1048576: true; the input reads as it did. -/
def fnGapsUptoRow : OpenClaim := { program := "ythihjhidjnadaaagreat", sum := "9a46ccd85df9995db9c7dfe9698609943ccdf88f0e87298c41dcaf20e36f8e13", func := "loop.example/g00833/laws.FnGaps", spec := "fnGaps", unfollowed := true, recurses := true, apart := false, narrowed := true }
def FnGapsUptoSaid : Prop := fnGapsUptoRow.holds Tryz.pinned (OpenSpec.upto fnGapsSpec)

/-- 'laws.FnUse', WHERE WHAT IT READS IS OF BULK AT MOST 1048576: true; the input reads as it did. -/
def fnUseUptoRow : OpenClaim := { program := "ythihjhidjnadaaagreat", sum := "9a46ccd85df9995db9c7dfe9698609943ccdf88f0e87298c41dcaf20e36f8e13", func := "loop.example/g00833/laws.FnUse", spec := "fnUse", unfollowed := true, recurses := true, apart := false, narrowed := true }
def FnUseUptoSaid : Prop := fnUseUptoRow.holds Tryz.pinned (OpenSpec.upto fnUseSpec)

/-- 'laws.FnChains', WHERE WHAT IT READS IS OF BULK AT MOST 1048576: true; the input reads as it did. -/
def fnChainsUptoRow : OpenClaim := { program := "ythihjhidjnadaaagreat", sum := "9a46ccd85df9995db9c7dfe9698609943ccdf88f0e87298c41dcaf20e36f8e13", func := "loop.example/g00833/laws.FnChains", spec := "fnChains", unfollowed := true, recurses := true, apart := false, narrowed := true }
def FnChainsUptoSaid : Prop := fnChainsUptoRow.holds Tryz.pinned (OpenSpec.upto fnChainsSpec)

/-- 'laws.FnExactStatesOfCycle', WHERE WHAT IT READS IS OF BULK AT MOST 1048576: true; the input reads as it did. -/
def fnExactStatesOfCycleUptoRow : OpenClaim := { program := "ythihjhidjnadaaagreat", sum := "9a46ccd85df9995db9c7dfe9698609943ccdf88f0e87298c41dcaf20e36f8e13", func := "loop.example/g00833/laws.FnExactStatesOfCycle", spec := "fnExactStatesOfCycle", unfollowed := true, recurses := true, apart := false, narrowed := true }
def FnExactStatesOfCycleUptoSaid : Prop := fnExactStatesOfCycleUptoRow.holds Tryz.pinned (OpenSpec.upto fnExactStatesOfCycleSpec)

/-- 'laws.FnExactGapsOf', WHERE WHAT IT READS IS OF BULK AT MOST 1048576: true; the input reads as it did. -/
def fnExactGapsOfUptoRow : OpenClaim := { program := "ythihjhidjnadaaagreat", sum := "9a46ccd85df9995db9c7dfe9698609943ccdf88f0e87298c41dcaf20e36f8e13", func := "loop.example/g00833/laws.FnExactGapsOf", spec := "fnExactGapsOf", unfollowed := true, recurses := true, apart := false, narrowed := true }
def FnExactGapsOfUptoSaid : Prop := fnExactGapsOfUptoRow.holds Tryz.pinned (OpenSpec.upto fnExactGapsOfSpec)

/-- 'laws.FnExactWorstGap', WHERE WHAT IT READS IS OF BULK AT MOST 1048576: true; the input reads as it did. -/
def fnExactWorstGapUptoRow : OpenClaim := { program := "ythihjhidjnadaaagreat", sum := "9a46ccd85df9995db9c7dfe9698609943ccdf88f0e87298c41dcaf20e36f8e13", func := "loop.example/g00833/laws.FnExactWorstGap", spec := "fnExactWorstGap", unfollowed := true, recurses := true, apart := false, narrowed := true }
def FnExactWorstGapUptoSaid : Prop := fnExactWorstGapUptoRow.holds Tryz.pinned (OpenSpec.upto fnExactWorstGapSpec)

/-- 'laws.FnExactJitterOf', WHERE WHAT IT READS IS OF BULK AT MOST 1048576: true; the input reads as it did. -/
def fnExactJitterOfUptoRow : OpenClaim := { program := "ythihjhidjnadaaagreat", sum := "9a46ccd85df9995db9c7dfe9698609943ccdf88f0e87298c41dcaf20e36f8e13", func := "loop.example/g00833/laws.FnExactJitterOf", spec := "fnExactJitterOf", unfollowed := true, recurses := true, apart := false, narrowed := true }
def FnExactJitterOfUptoSaid : Prop := fnExactJitterOfUptoRow.holds Tryz.pinned (OpenSpec.upto fnExactJitterOfSpec)

/-- 'laws.FnExactPayloadOf', WHERE WHAT IT READS IS OF BULK AT MOST 1048576: true; the input reads as it did. -/
def fnExactPayloadOfUptoRow : OpenClaim := { program := "ythihjhidjnadaaagreat", sum := "9a46ccd85df9995db9c7dfe9698609943ccdf88f0e87298c41dcaf20e36f8e13", func := "loop.example/g00833/laws.FnExactPayloadOf", spec := "fnExactPayloadOf", unfollowed := true, recurses := true, apart := false, narrowed := true }
def FnExactPayloadOfUptoSaid : Prop := fnExactPayloadOfUptoRow.holds Tryz.pinned (OpenSpec.upto fnExactPayloadOfSpec)

/-- 'laws.FnExactUseOf', WHERE WHAT IT READS IS OF BULK AT MOST 1048576: true; the input reads as it did. -/
def fnExactUseOfUptoRow : OpenClaim := { program := "ythihjhidjnadaaagreat", sum := "9a46ccd85df9995db9c7dfe9698609943ccdf88f0e87298c41dcaf20e36f8e13", func := "loop.example/g00833/laws.FnExactUseOf", spec := "fnExactUseOf", unfollowed := true, recurses := true, apart := false, narrowed := true }
def FnExactUseOfUptoSaid : Prop := fnExactUseOfUptoRow.holds Tryz.pinned (OpenSpec.upto fnExactUseOfSpec)

/-- 'laws.FnExactChainTime', WHERE WHAT IT READS IS OF BULK AT MOST 1048576: true; the input reads as it did. -/
def fnExactChainTimeUptoRow : OpenClaim := { program := "ythihjhidjnadaaagreat", sum := "9a46ccd85df9995db9c7dfe9698609943ccdf88f0e87298c41dcaf20e36f8e13", func := "loop.example/g00833/laws.FnExactChainTime", spec := "fnExactChainTime", unfollowed := true, recurses := true, apart := false, narrowed := true }
def FnExactChainTimeUptoSaid : Prop := fnExactChainTimeUptoRow.holds Tryz.pinned (OpenSpec.upto fnExactChainTimeSpec)

/-- 'laws.FnExactSlackOf', WHERE WHAT IT READS IS OF BULK AT MOST 1048576: true; the input reads as it did. -/
def fnExactSlackOfUptoRow : OpenClaim := { program := "ythihjhidjnadaaagreat", sum := "9a46ccd85df9995db9c7dfe9698609943ccdf88f0e87298c41dcaf20e36f8e13", func := "loop.example/g00833/laws.FnExactSlackOf", spec := "fnExactSlackOf", unfollowed := true, recurses := true, apart := false, narrowed := true }
def FnExactSlackOfUptoSaid : Prop := fnExactSlackOfUptoRow.holds Tryz.pinned (OpenSpec.upto fnExactSlackOfSpec)

end Rows
end Go.Proofs.YthihjhidjnadaaaGreat
