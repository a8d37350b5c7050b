/-
  No cell of these rows narrows 'for every input' (looked for: loops, veiled, ifaces, maps, wideKeys, modest, calm, conditions, laid).
  DERIVED. THE GIVEN ROWS OF THIS SEAT. 10 by the template 'for every input the law returns true; each argument reads behind the call as it read before'; 0 by the template 'total and deterministic' (their statements: YtnbbbndfpehinaaGreatTotals.lean).
  GIVEN WITH THE SEED: the statements are not yours to turn. If you find one false, say at which input.
  Laid BY PROGRAM, IN A SANDBOX (cutbox-rows.mjs): the forced cells as the released guide's own fill.sh prints them over the translation 226ab9ed68f47234… (all of the seat's roots in one cut). By AI agents, Wed Nov 11 2026. No macro, syntax, notation, axiom, sorry.
-/
import Derived.Test.YtnbbbndfpehinaaGreatChecked
import GoSem.Claim
import GoSem.ClaimJoined
import GoSem.ClaimMapViews
import Derived.JoinedTies
import Derived.KernelRfl
namespace Go.Proofs.YtnbbbndfpehinaaGreat
/- THE CELL 'sum', in the pinned program and in every row, IS THE sha256 OF THE DUMP (.gsa) THAT YtnbbbndfpehinaaGreatProg.lean LOADS. Nothing in Lean hashes anything: it is a label: what it is worth is what the hold of that sum in a sandbox is worth. -/
noncomputable def Tryz.pinned : Pinned := { name := "ytnbbbndfpehinaagreat", sum := "226ab9ed68f47234d36fb5b9446bd9cab98a107c8f121bf12a7c29a6e6b71416", checked := Tryz.checked }
namespace Rows
def none {H : Type} : Left H := { results := [], args := [] }

/-- 'laws.FnCyclesOfStates': WHATEVER THE INPUT: true; the input reads as it did. -/
def fnCyclesOfStatesSpec : ChangeSpec := { name := "fnCyclesOfStates", fn := fun _ => fun
  | [d] => { results := [.lit (.bool true)], args := [d] }
  | _ => none }
def fnCyclesOfStatesRow : OpenClaim := { program := "ytnbbbndfpehinaagreat", sum := "226ab9ed68f47234d36fb5b9446bd9cab98a107c8f121bf12a7c29a6e6b71416", func := "loop.example/g00833/laws.FnCyclesOfStates", spec := "fnCyclesOfStates", unfollowed := true, recurses := true, apart := false }
def FnCyclesOfStatesSaid : Prop := fnCyclesOfStatesRow.holds Tryz.pinned (OpenSpec.ofChange fnCyclesOfStatesSpec)

/-- ITS FALSE NEIGHBOUR: 'it returns false'. Refute it at one input. -/
def fnCyclesOfStatesWrong : ChangeSpec := { name := "fnCyclesOfStates", fn := fun _ => fun
  | [d] => { results := [.lit (.bool false)], args := [d] }
  | _ => none }
def FnCyclesOfStatesWrongFalsely : Prop := fnCyclesOfStatesRow.holds Tryz.pinned (OpenSpec.ofChange fnCyclesOfStatesWrong)

/-- 'laws.FnSlotTimes': WHATEVER THE INPUT: true; the input reads as it did. -/
def fnSlotTimesSpec : ChangeSpec := { name := "fnSlotTimes", fn := fun _ => fun
  | [d] => { results := [.lit (.bool true)], args := [d] }
  | _ => none }
def fnSlotTimesRow : OpenClaim := { program := "ytnbbbndfpehinaagreat", sum := "226ab9ed68f47234d36fb5b9446bd9cab98a107c8f121bf12a7c29a6e6b71416", func := "loop.example/g00833/laws.FnSlotTimes", spec := "fnSlotTimes", inPlace := ["sync/atomic.LoadUint32", "(*internal/sync.Mutex).Lock", "internal/race.Disable", "sync/atomic.CompareAndSwapInt32", "internal/race.Enable", "internal/race.Acquire", "(*internal/sync.Mutex).lockSlow", "internal/sync.runtime_canSpin", "internal/sync.runtime_doSpin", "internal/sync.throw", "internal/sync.runtime_nanotime", "internal/sync.runtime_SemacquireMutex", "sync/atomic.AddInt32", "(*internal/sync.Mutex).Unlock", "internal/race.ReleaseMerge", "(*internal/sync.Mutex).unlockSlow", "internal/sync.fatal", "internal/sync.runtime_Semrelease", "sync/atomic.StoreUint32"], unfollowed := true, recurses := true, apart := false }
def FnSlotTimesSaid : Prop := fnSlotTimesRow.holds Tryz.pinned (OpenSpec.ofChange fnSlotTimesSpec)

/-- ITS FALSE NEIGHBOUR: 'it returns false'. Refute it at one input. -/
def fnSlotTimesWrong : ChangeSpec := { name := "fnSlotTimes", fn := fun _ => fun
  | [d] => { results := [.lit (.bool false)], args := [d] }
  | _ => none }
def FnSlotTimesWrongFalsely : Prop := fnSlotTimesRow.holds Tryz.pinned (OpenSpec.ofChange fnSlotTimesWrong)

/-- 'laws.FnSlotAt': WHATEVER THE INPUT: true; the input reads as it did. -/
def fnSlotAtSpec : ChangeSpec := { name := "fnSlotAt", fn := fun _ => fun
  | [d] => { results := [.lit (.bool true)], args := [d] }
  | _ => none }
def fnSlotAtRow : OpenClaim := { program := "ytnbbbndfpehinaagreat", sum := "226ab9ed68f47234d36fb5b9446bd9cab98a107c8f121bf12a7c29a6e6b71416", func := "loop.example/g00833/laws.FnSlotAt", spec := "fnSlotAt", inPlace := ["sync/atomic.LoadUint32", "(*internal/sync.Mutex).Lock", "internal/race.Disable", "sync/atomic.CompareAndSwapInt32", "internal/race.Enable", "internal/race.Acquire", "(*internal/sync.Mutex).lockSlow", "internal/sync.runtime_canSpin", "internal/sync.runtime_doSpin", "internal/sync.throw", "internal/sync.runtime_nanotime", "internal/sync.runtime_SemacquireMutex", "sync/atomic.AddInt32", "(*internal/sync.Mutex).Unlock", "internal/race.ReleaseMerge", "(*internal/sync.Mutex).unlockSlow", "internal/sync.fatal", "internal/sync.runtime_Semrelease", "sync/atomic.StoreUint32"], unfollowed := true, recurses := true, apart := false }
def FnSlotAtSaid : Prop := fnSlotAtRow.holds Tryz.pinned (OpenSpec.ofChange fnSlotAtSpec)

/-- ITS FALSE NEIGHBOUR: 'it returns false'. Refute it at one input. -/
def fnSlotAtWrong : ChangeSpec := { name := "fnSlotAt", fn := fun _ => fun
  | [d] => { results := [.lit (.bool false)], args := [d] }
  | _ => none }
def FnSlotAtWrongFalsely : Prop := fnSlotAtRow.holds Tryz.pinned (OpenSpec.ofChange fnSlotAtWrong)

/-- 'laws.FnExactBelongsTo': WHATEVER THE INPUT: true; the input reads as it did. -/
def fnExactBelongsToSpec : ChangeSpec := { name := "fnExactBelongsTo", fn := fun _ => fun
  | [d1, d2] => { results := [.lit (.bool true)], args := [d1, d2] }
  | _ => none }
def fnExactBelongsToRow : OpenClaim := { program := "ytnbbbndfpehinaagreat", sum := "226ab9ed68f47234d36fb5b9446bd9cab98a107c8f121bf12a7c29a6e6b71416", func := "loop.example/g00833/laws.FnExactBelongsTo", spec := "fnExactBelongsTo", unfollowed := true, recurses := true, apart := false }
def FnExactBelongsToSaid : Prop := fnExactBelongsToRow.holds Tryz.pinned (OpenSpec.ofChange fnExactBelongsToSpec)

/-- ITS FALSE NEIGHBOUR: 'it returns false'. Refute it at one input. -/
def fnExactBelongsToWrong : ChangeSpec := { name := "fnExactBelongsTo", fn := fun _ => fun
  | [d1, d2] => { results := [.lit (.bool false)], args := [d1, d2] }
  | _ => none }
def FnExactBelongsToWrongFalsely : Prop := fnExactBelongsToRow.holds Tryz.pinned (OpenSpec.ofChange fnExactBelongsToWrong)

/-- 'laws.FnExactDescriptorFor': WHATEVER THE INPUT: true; the input reads as it did. -/
def fnExactDescriptorForSpec : ChangeSpec := { name := "fnExactDescriptorFor", fn := fun _ => fun
  | [d1, d2] => { results := [.lit (.bool true)], args := [d1, d2] }
  | _ => none }
def fnExactDescriptorForRow : OpenClaim := { program := "ytnbbbndfpehinaagreat", sum := "226ab9ed68f47234d36fb5b9446bd9cab98a107c8f121bf12a7c29a6e6b71416", func := "loop.example/g00833/laws.FnExactDescriptorFor", spec := "fnExactDescriptorFor", unfollowed := true, recurses := true, apart := false }
def FnExactDescriptorForSaid : Prop := fnExactDescriptorForRow.holds Tryz.pinned (OpenSpec.ofChange fnExactDescriptorForSpec)

/-- ITS FALSE NEIGHBOUR: 'it returns false'. Refute it at one input. -/
def fnExactDescriptorForWrong : ChangeSpec := { name := "fnExactDescriptorFor", fn := fun _ => fun
  | [d1, d2] => { results := [.lit (.bool false)], args := [d1, d2] }
  | _ => none }
def FnExactDescriptorForWrongFalsely : Prop := fnExactDescriptorForRow.holds Tryz.pinned (OpenSpec.ofChange fnExactDescriptorForWrong)

/-- 'laws.FnExactNextStateOf': WHATEVER THE INPUT: true; the input reads as it did. -/
def fnExactNextStateOfSpec : ChangeSpec := { name := "fnExactNextStateOf", fn := fun _ => fun
  | [d1, d2] => { results := [.lit (.bool true)], args := [d1, d2] }
  | _ => none }
def fnExactNextStateOfRow : OpenClaim := { program := "ytnbbbndfpehinaagreat", sum := "226ab9ed68f47234d36fb5b9446bd9cab98a107c8f121bf12a7c29a6e6b71416", func := "loop.example/g00833/laws.FnExactNextStateOf", spec := "fnExactNextStateOf", unfollowed := true, recurses := true, apart := false }
def FnExactNextStateOfSaid : Prop := fnExactNextStateOfRow.holds Tryz.pinned (OpenSpec.ofChange fnExactNextStateOfSpec)

/-- ITS FALSE NEIGHBOUR: 'it returns false'. Refute it at one input. -/
def fnExactNextStateOfWrong : ChangeSpec := { name := "fnExactNextStateOf", fn := fun _ => fun
  | [d1, d2] => { results := [.lit (.bool false)], args := [d1, d2] }
  | _ => none }
def FnExactNextStateOfWrongFalsely : Prop := fnExactNextStateOfRow.holds Tryz.pinned (OpenSpec.ofChange fnExactNextStateOfWrong)

/-- 'laws.FnExactSlotStart': WHATEVER THE INPUT: true; the input reads as it did. -/
def fnExactSlotStartSpec : ChangeSpec := { name := "fnExactSlotStart", fn := fun _ => fun
  | [d1, d2] => { results := [.lit (.bool true)], args := [d1, d2] }
  | _ => none }
def fnExactSlotStartRow : OpenClaim := { program := "ytnbbbndfpehinaagreat", sum := "226ab9ed68f47234d36fb5b9446bd9cab98a107c8f121bf12a7c29a6e6b71416", func := "loop.example/g00833/laws.FnExactSlotStart", spec := "fnExactSlotStart", inPlace := ["sync/atomic.LoadUint32", "(*internal/sync.Mutex).Lock", "internal/race.Disable", "sync/atomic.CompareAndSwapInt32", "internal/race.Enable", "internal/race.Acquire", "(*internal/sync.Mutex).lockSlow", "internal/sync.runtime_canSpin", "internal/sync.runtime_doSpin", "internal/sync.throw", "internal/sync.runtime_nanotime", "internal/sync.runtime_SemacquireMutex", "sync/atomic.AddInt32", "(*internal/sync.Mutex).Unlock", "internal/race.ReleaseMerge", "(*internal/sync.Mutex).unlockSlow", "internal/sync.fatal", "internal/sync.runtime_Semrelease", "sync/atomic.StoreUint32"], unfollowed := true, recurses := true, apart := false }
def FnExactSlotStartSaid : Prop := fnExactSlotStartRow.holds Tryz.pinned (OpenSpec.ofChange fnExactSlotStartSpec)

/-- ITS FALSE NEIGHBOUR: 'it returns false'. Refute it at one input. -/
def fnExactSlotStartWrong : ChangeSpec := { name := "fnExactSlotStart", fn := fun _ => fun
  | [d1, d2] => { results := [.lit (.bool false)], args := [d1, d2] }
  | _ => none }
def FnExactSlotStartWrongFalsely : Prop := fnExactSlotStartRow.holds Tryz.pinned (OpenSpec.ofChange fnExactSlotStartWrong)

/-- 'laws.FnExactSlotAt': WHATEVER THE INPUT: true; the input reads as it did. -/
def fnExactSlotAtSpec : ChangeSpec := { name := "fnExactSlotAt", fn := fun _ => fun
  | [d1, d2, d3] => { results := [.lit (.bool true)], args := [d1, d2, d3] }
  | _ => none }
def fnExactSlotAtRow : OpenClaim := { program := "ytnbbbndfpehinaagreat", sum := "226ab9ed68f47234d36fb5b9446bd9cab98a107c8f121bf12a7c29a6e6b71416", func := "loop.example/g00833/laws.FnExactSlotAt", spec := "fnExactSlotAt", inPlace := ["sync/atomic.LoadUint32", "(*internal/sync.Mutex).Lock", "internal/race.Disable", "sync/atomic.CompareAndSwapInt32", "internal/race.Enable", "internal/race.Acquire", "(*internal/sync.Mutex).lockSlow", "internal/sync.runtime_canSpin", "internal/sync.runtime_doSpin", "internal/sync.throw", "internal/sync.runtime_nanotime", "internal/sync.runtime_SemacquireMutex", "sync/atomic.AddInt32", "(*internal/sync.Mutex).Unlock", "internal/race.ReleaseMerge", "(*internal/sync.Mutex).unlockSlow", "internal/sync.fatal", "internal/sync.runtime_Semrelease", "sync/atomic.StoreUint32"], unfollowed := true, recurses := true, apart := false }
def FnExactSlotAtSaid : Prop := fnExactSlotAtRow.holds Tryz.pinned (OpenSpec.ofChange fnExactSlotAtSpec)

/-- ITS FALSE NEIGHBOUR: 'it returns false'. Refute it at one input. -/
def fnExactSlotAtWrong : ChangeSpec := { name := "fnExactSlotAt", fn := fun _ => fun
  | [d1, d2, d3] => { results := [.lit (.bool false)], args := [d1, d2, d3] }
  | _ => none }
def FnExactSlotAtWrongFalsely : Prop := fnExactSlotAtRow.holds Tryz.pinned (OpenSpec.ofChange fnExactSlotAtWrong)

/-- 'laws.FnExactSendTimes': WHATEVER THE INPUT: true; the input reads as it did. -/
def fnExactSendTimesSpec : ChangeSpec := { name := "fnExactSendTimes", fn := fun _ => fun
  | [d1, d2, d3] => { results := [.lit (.bool true)], args := [d1, d2, d3] }
  | _ => none }
def fnExactSendTimesRow : OpenClaim := { program := "ytnbbbndfpehinaagreat", sum := "226ab9ed68f47234d36fb5b9446bd9cab98a107c8f121bf12a7c29a6e6b71416", func := "loop.example/g00833/laws.FnExactSendTimes", spec := "fnExactSendTimes", inPlace := ["sync/atomic.LoadUint32", "(*internal/sync.Mutex).Lock", "internal/race.Disable", "sync/atomic.CompareAndSwapInt32", "internal/race.Enable", "internal/race.Acquire", "(*internal/sync.Mutex).lockSlow", "internal/sync.runtime_canSpin", "internal/sync.runtime_doSpin", "internal/sync.throw", "internal/sync.runtime_nanotime", "internal/sync.runtime_SemacquireMutex", "sync/atomic.AddInt32", "(*internal/sync.Mutex).Unlock", "internal/race.ReleaseMerge", "(*internal/sync.Mutex).unlockSlow", "internal/sync.fatal", "internal/sync.runtime_Semrelease", "sync/atomic.StoreUint32"], unfollowed := true, recurses := true, apart := false }
def FnExactSendTimesSaid : Prop := fnExactSendTimesRow.holds Tryz.pinned (OpenSpec.ofChange fnExactSendTimesSpec)

/-- ITS FALSE NEIGHBOUR: 'it returns false'. Refute it at one input. -/
def fnExactSendTimesWrong : ChangeSpec := { name := "fnExactSendTimes", fn := fun _ => fun
  | [d1, d2, d3] => { results := [.lit (.bool false)], args := [d1, d2, d3] }
  | _ => none }
def FnExactSendTimesWrongFalsely : Prop := fnExactSendTimesRow.holds Tryz.pinned (OpenSpec.ofChange fnExactSendTimesWrong)

/-- 'laws.FnExactStatesOfCycle': WHATEVER THE INPUT: true; the input reads as it did. -/
def fnExactStatesOfCycleSpec : ChangeSpec := { name := "fnExactStatesOfCycle", fn := fun _ => fun
  | [d1, d2] => { results := [.lit (.bool true)], args := [d1, d2] }
  | _ => none }
def fnExactStatesOfCycleRow : OpenClaim := { program := "ytnbbbndfpehinaagreat", sum := "226ab9ed68f47234d36fb5b9446bd9cab98a107c8f121bf12a7c29a6e6b71416", func := "loop.example/g00833/laws.FnExactStatesOfCycle", spec := "fnExactStatesOfCycle", unfollowed := true, recurses := true, apart := false }
def FnExactStatesOfCycleSaid : Prop := fnExactStatesOfCycleRow.holds Tryz.pinned (OpenSpec.ofChange fnExactStatesOfCycleSpec)

/-- ITS FALSE NEIGHBOUR: 'it returns false'. Refute it at one input. -/
def fnExactStatesOfCycleWrong : ChangeSpec := { name := "fnExactStatesOfCycle", fn := fun _ => fun
  | [d1, d2] => { results := [.lit (.bool false)], args := [d1, d2] }
  | _ => none }
def FnExactStatesOfCycleWrongFalsely : Prop := fnExactStatesOfCycleRow.holds Tryz.pinned (OpenSpec.ofChange fnExactStatesOfCycleWrong)

/- THE SECOND FORM. 'bulk': how many values and letters a reading holds, each counted each time it is reached (what is shared counts as often as it is met; a slice's spare places count too). A statement '..UptoSaid' is the law's where the arguments, and the package variables that the reading takes, are together of bulk at most 1048576: NARROWER than '..Said'. Prove '..Said' where nothing that the law and all that it calls make is longer than what came in: it says more and counts as full. Else prove '..UptoSaid'. A law counts once. -/
mutual
def uptoBulk {H : Type} : DataW H → Nat
  | .lit (.string bytes) => bytes.length + 1
  | .lit _ => 1
  | .nil => 1
  | .ptr d => uptoBulk d + 1
  | .slice elems spare => uptoBulkAll elems + uptoBulkAll spare + 1
  | .agg parts => uptoBulkAll parts + 1
  | .iface _ d => uptoBulk d + 1
  | .map entries => uptoBulkEntries entries + 1
  | .held _ => 1
def uptoBulkAll {H : Type} : List (DataW H) → Nat
  | [] => 0
  | d :: r => uptoBulk d + uptoBulkAll r
def uptoBulkEntries {H : Type} : List (Lit × DataW H) → Nat
  | [] => 0
  | x :: r => uptoBulkEntry x + uptoBulkEntries r
def uptoBulkEntry {H : Type} : Lit × DataW H → Nat
  | (.string bytes, d) => bytes.length + uptoBulk d + 1
  | (_, d) => uptoBulk d + 1
 end
def uptoSmall : (H : Type) → List (DataW H) → Bool := fun _ ds => decide (uptoBulkAll ds ≤ 1048576)
def OpenSpec.upto (s : _root_.Go.ChangeSpec) : _root_.Go.OpenSpec := { _root_.Go.OpenSpec.ofChange s with cond := some uptoSmall }

/-- 'laws.FnCyclesOfStates', WHERE WHAT IT READS IS OF BULK AT MOST 1048576: true; the input reads as it did. -/
def fnCyclesOfStatesUptoRow : OpenClaim := { program := "ytnbbbndfpehinaagreat", sum := "226ab9ed68f47234d36fb5b9446bd9cab98a107c8f121bf12a7c29a6e6b71416", func := "loop.example/g00833/laws.FnCyclesOfStates", spec := "fnCyclesOfStates", unfollowed := true, recurses := true, apart := false, narrowed := true }
def FnCyclesOfStatesUptoSaid : Prop := fnCyclesOfStatesUptoRow.holds Tryz.pinned (OpenSpec.upto fnCyclesOfStatesSpec)

/-- 'laws.FnSlotTimes', WHERE WHAT IT READS IS OF BULK AT MOST 1048576: true; the input reads as it did. -/
def fnSlotTimesUptoRow : OpenClaim := { program := "ytnbbbndfpehinaagreat", sum := "226ab9ed68f47234d36fb5b9446bd9cab98a107c8f121bf12a7c29a6e6b71416", func := "loop.example/g00833/laws.FnSlotTimes", spec := "fnSlotTimes", inPlace := ["sync/atomic.LoadUint32", "(*internal/sync.Mutex).Lock", "internal/race.Disable", "sync/atomic.CompareAndSwapInt32", "internal/race.Enable", "internal/race.Acquire", "(*internal/sync.Mutex).lockSlow", "internal/sync.runtime_canSpin", "internal/sync.runtime_doSpin", "internal/sync.throw", "internal/sync.runtime_nanotime", "internal/sync.runtime_SemacquireMutex", "sync/atomic.AddInt32", "(*internal/sync.Mutex).Unlock", "internal/race.ReleaseMerge", "(*internal/sync.Mutex).unlockSlow", "internal/sync.fatal", "internal/sync.runtime_Semrelease", "sync/atomic.StoreUint32"], unfollowed := true, recurses := true, apart := false, narrowed := true }
def FnSlotTimesUptoSaid : Prop := fnSlotTimesUptoRow.holds Tryz.pinned (OpenSpec.upto fnSlotTimesSpec)

/-- 'laws.FnSlotAt', WHERE WHAT IT READS IS OF BULK AT MOST 1048576: true; the input reads as it did. -/
def fnSlotAtUptoRow : OpenClaim := { program := "ytnbbbndfpehinaagreat", sum := "226ab9ed68f47234d36fb5b9446bd9cab98a107c8f121bf12a7c29a6e6b71416", func := "loop.example/g00833/laws.FnSlotAt", spec := "fnSlotAt", inPlace := ["sync/atomic.LoadUint32", "(*internal/sync.Mutex).Lock", "internal/race.Disable", "sync/atomic.CompareAndSwapInt32", "internal/race.Enable", "internal/race.Acquire", "(*internal/sync.Mutex).lockSlow", "internal/sync.runtime_canSpin", "internal/sync.runtime_doSpin", "internal/sync.throw", "internal/sync.runtime_nanotime", "internal/sync.runtime_SemacquireMutex", "sync/atomic.AddInt32", "(*internal/sync.Mutex).Unlock", "internal/race.ReleaseMerge", "(*internal/sync.Mutex).unlockSlow", "internal/sync.fatal", "internal/sync.runtime_Semrelease", "sync/atomic.StoreUint32"], unfollowed := true, recurses := true, apart := false, narrowed := true }
def FnSlotAtUptoSaid : Prop := fnSlotAtUptoRow.holds Tryz.pinned (OpenSpec.upto fnSlotAtSpec)

/-- 'laws.FnExactBelongsTo', WHERE WHAT IT READS IS OF BULK AT MOST 1048576: true; the input reads as it did. -/
def fnExactBelongsToUptoRow : OpenClaim := { program := "ytnbbbndfpehinaagreat", sum := "226ab9ed68f47234d36fb5b9446bd9cab98a107c8f121bf12a7c29a6e6b71416", func := "loop.example/g00833/laws.FnExactBelongsTo", spec := "fnExactBelongsTo", unfollowed := true, recurses := true, apart := false, narrowed := true }
def FnExactBelongsToUptoSaid : Prop := fnExactBelongsToUptoRow.holds Tryz.pinned (OpenSpec.upto fnExactBelongsToSpec)

/-- 'laws.FnExactDescriptorFor', WHERE WHAT IT READS IS OF BULK AT MOST 1048576: true; the input reads as it did. -/
def fnExactDescriptorForUptoRow : OpenClaim := { program := "ytnbbbndfpehinaagreat", sum := "226ab9ed68f47234d36fb5b9446bd9cab98a107c8f121bf12a7c29a6e6b71416", func := "loop.example/g00833/laws.FnExactDescriptorFor", spec := "fnExactDescriptorFor", unfollowed := true, recurses := true, apart := false, narrowed := true }
def FnExactDescriptorForUptoSaid : Prop := fnExactDescriptorForUptoRow.holds Tryz.pinned (OpenSpec.upto fnExactDescriptorForSpec)

/-- 'laws.FnExactNextStateOf', WHERE WHAT IT READS IS OF BULK AT MOST 1048576: true; the input reads as it did. -/
def fnExactNextStateOfUptoRow : OpenClaim := { program := "ytnbbbndfpehinaagreat", sum := "226ab9ed68f47234d36fb5b9446bd9cab98a107c8f121bf12a7c29a6e6b71416", func := "loop.example/g00833/laws.FnExactNextStateOf", spec := "fnExactNextStateOf", unfollowed := true, recurses := true, apart := false, narrowed := true }
def FnExactNextStateOfUptoSaid : Prop := fnExactNextStateOfUptoRow.holds Tryz.pinned (OpenSpec.upto fnExactNextStateOfSpec)

/-- 'laws.FnExactSlotStart', WHERE WHAT IT READS IS OF BULK AT MOST 1048576: true; the input reads as it did. -/
def fnExactSlotStartUptoRow : OpenClaim := { program := "ytnbbbndfpehinaagreat", sum := "226ab9ed68f47234d36fb5b9446bd9cab98a107c8f121bf12a7c29a6e6b71416", func := "loop.example/g00833/laws.FnExactSlotStart", spec := "fnExactSlotStart", inPlace := ["sync/atomic.LoadUint32", "(*internal/sync.Mutex).Lock", "internal/race.Disable", "sync/atomic.CompareAndSwapInt32", "internal/race.Enable", "internal/race.Acquire", "(*internal/sync.Mutex).lockSlow", "internal/sync.runtime_canSpin", "internal/sync.runtime_doSpin", "internal/sync.throw", "internal/sync.runtime_nanotime", "internal/sync.runtime_SemacquireMutex", "sync/atomic.AddInt32", "(*internal/sync.Mutex).Unlock", "internal/race.ReleaseMerge", "(*internal/sync.Mutex).unlockSlow", "internal/sync.fatal", "internal/sync.runtime_Semrelease", "sync/atomic.StoreUint32"], unfollowed := true, recurses := true, apart := false, narrowed := true }
def FnExactSlotStartUptoSaid : Prop := fnExactSlotStartUptoRow.holds Tryz.pinned (OpenSpec.upto fnExactSlotStartSpec)

/-- 'laws.FnExactSlotAt', WHERE WHAT IT READS IS OF BULK AT MOST 1048576: true; the input reads as it did. -/
def fnExactSlotAtUptoRow : OpenClaim := { program := "ytnbbbndfpehinaagreat", sum := "226ab9ed68f47234d36fb5b9446bd9cab98a107c8f121bf12a7c29a6e6b71416", func := "loop.example/g00833/laws.FnExactSlotAt", spec := "fnExactSlotAt", inPlace := ["sync/atomic.LoadUint32", "(*internal/sync.Mutex).Lock", "internal/race.Disable", "sync/atomic.CompareAndSwapInt32", "internal/race.Enable", "internal/race.Acquire", "(*internal/sync.Mutex).lockSlow", "internal/sync.runtime_canSpin", "internal/sync.runtime_doSpin", "internal/sync.throw", "internal/sync.runtime_nanotime", "internal/sync.runtime_SemacquireMutex", "sync/atomic.AddInt32", "(*internal/sync.Mutex).Unlock", "internal/race.ReleaseMerge", "(*internal/sync.Mutex).unlockSlow", "internal/sync.fatal", "internal/sync.runtime_Semrelease", "sync/atomic.StoreUint32"], unfollowed := true, recurses := true, apart := false, narrowed := true }
def FnExactSlotAtUptoSaid : Prop := fnExactSlotAtUptoRow.holds Tryz.pinned (OpenSpec.upto fnExactSlotAtSpec)

/-- 'laws.FnExactSendTimes', WHERE WHAT IT READS IS OF BULK AT MOST 1048576: true; the input reads as it did. -/
def fnExactSendTimesUptoRow : OpenClaim := { program := "ytnbbbndfpehinaagreat", sum := "226ab9ed68f47234d36fb5b9446bd9cab98a107c8f121bf12a7c29a6e6b71416", func := "loop.example/g00833/laws.FnExactSendTimes", spec := "fnExactSendTimes", inPlace := ["sync/atomic.LoadUint32", "(*internal/sync.Mutex).Lock", "internal/race.Disable", "sync/atomic.CompareAndSwapInt32", "internal/race.Enable", "internal/race.Acquire", "(*internal/sync.Mutex).lockSlow", "internal/sync.runtime_canSpin", "internal/sync.runtime_doSpin", "internal/sync.throw", "internal/sync.runtime_nanotime", "internal/sync.runtime_SemacquireMutex", "sync/atomic.AddInt32", "(*internal/sync.Mutex).Unlock", "internal/race.ReleaseMerge", "(*internal/sync.Mutex).unlockSlow", "internal/sync.fatal", "internal/sync.runtime_Semrelease", "sync/atomic.StoreUint32"], unfollowed := true, recurses := true, apart := false, narrowed := true }
def FnExactSendTimesUptoSaid : Prop := fnExactSendTimesUptoRow.holds Tryz.pinned (OpenSpec.upto fnExactSendTimesSpec)

/-- 'laws.FnExactStatesOfCycle', WHERE WHAT IT READS IS OF BULK AT MOST 1048576: true; the input reads as it did. -/
def fnExactStatesOfCycleUptoRow : OpenClaim := { program := "ytnbbbndfpehinaagreat", sum := "226ab9ed68f47234d36fb5b9446bd9cab98a107c8f121bf12a7c29a6e6b71416", func := "loop.example/g00833/laws.FnExactStatesOfCycle", spec := "fnExactStatesOfCycle", unfollowed := true, recurses := true, apart := false, narrowed := true }
def FnExactStatesOfCycleUptoSaid : Prop := fnExactStatesOfCycleUptoRow.holds Tryz.pinned (OpenSpec.upto fnExactStatesOfCycleSpec)

end Rows
end Go.Proofs.YtnbbbndfpehinaaGreat
