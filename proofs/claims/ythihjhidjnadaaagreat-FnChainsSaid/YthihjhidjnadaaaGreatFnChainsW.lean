/-
  The walk of laws.FnChains: at every input it returns true and writes nothing that was there.
-/
import Derived.Test.YthihjhidjnadaaaGreatRows
import Derived.Test.YthihjhidjnadaaaGreatP21A
import Derived.Test.YthihjhidjnadaaaGreatP21N
import Derived.Test.YthihjhidjnadaaaGreatP21M
import Derived.Test.YthihjhidjnadaaaGreatP21E
import Derived.Test.YthihjhidjnadaaaGreatP21S
import Derived.Test.YthihjhidjnadaaaGreatP21L
import Derived.Test.YthihjhidjnadaaaGreatP21Z
import Derived.Test.YthihjhidjnadaaaGreatP21I
import Derived.Test.YthihjhidjnadaaaGreatP21T
import Derived.Test.YthihjhidjnadaaaGreatP21C
import Derived.Test.YthihjhidjnadaaaGreatP21D
import Derived.Test.YthihjhidjnadaaaGreatP21K
import Derived.Test.YthihjhidjnadaaaGreatP21G
import Derived.Test.YthihjhidjnadaaaGreatP21U
import Derived.Test.YthihjhidjnadaaaGreatP21X
import Derived.Test.YthihjhidjnadaaaGreatP21F
import Derived.Test.YthihjhidjnadaaaGreatP21V
import Derived.Test.YthihjhidjnadaaaGreatP21O
import Derived.Test.YthihjhidjnadaaaGreatP21H
import Derived.Test.YthihjhidjnadaaaGreatP21B
import Derived.WalkKit
import Derived.ProofKit
import Derived.OpenShut
import Derived.ShutString
import Derived.ChangeOld
import Derived.Below
namespace Go.Proofs.YthihjhidjnadaaaGreat.fnChains
open Go.ChangeShapes Go.WideShapes Go.ChangeAt Go.RowKit
open Go.ChangeMaps (open_string shut_string)
set_option linter.unusedVariables false


/-- WHAT THE WALK IS TOLD OF A SLICE OF INTEGERS THAT CAME IN: it is nil; or it leads to a row of 'cap' cells, the numbers 'zs' (the first 'len' are its elements, the rest its spare room), each fitting its kind. -/
def IsRow (k : IntKind) (w : World) (a : Option Addr) (len cap : Nat) (zs : List Int) : Prop :=
  (a = none ∧ len = 0 ∧ cap = 0 ∧ zs = []) ∨
  ∃ x, a = some x ∧ len ≤ cap ∧ cap ≤ maxLen ∧ zs.length = cap ∧ (∀ i, i < zs.length → w.cell? (x.add i) = some (.int k (zs.getD i 0))) ∧ ∀ n ∈ zs, (Lit.int k n).wf = true

/-! ### STEP 1: THE WALK: the Go text returns true, AND WRITES NOTHING THAT WAS THERE: 'Below w.heap.size w w'' (Derived/Below.lean: '.refl', '.alloc', '.drew', '.setCell' at a new block, '.trans'). Open each 'IsRow' by 'rcases' AHEAD of 'go_enter'; part every test ahead of the walk. -/
set_option linter.unusedSimpArgs false in
set_option linter.unusedVariables false in
set_option maxRecDepth 100000 in
set_option maxHeartbeats 4000000 in
theorem walk (a0 : Option Addr) (len0 cap0 : Nat) (z0 : List Int) (w : World) (w0 : IsRow .u8 w a0 len0 cap0 z0) :
    Calls Tryz.prog 7 #[.slice a0 len0 cap0] w fun e w' => e = .returned (.bool true) ∧ Below w.heap.size w w' := by
  have hr := rdB_of_row w0
  clear w0
  generalize List.take len0 z0 = xs0 at hr
  have HR := Lib.hid hr; clear hr
  by_cases hbig : len0 ≤ 4096
  rotate_left
  · go_enter Tryz.func7, Tryz.ntmps7
    go_wp2_with fail
    refine (big_yes _ _ _ _ hbig).mono ?_
    rintro e w' ⟨rfl, rfl⟩
    go_wp2
    go_ret
    exact ⟨rfl, Below.refl _ _⟩
  go_enter Tryz.func7, Tryz.ntmps7
  go_wp2_with fail
  refine (big_no _ _ _ _ hbig).mono ?_
  rintro e w' ⟨rfl, rfl⟩
  go_wp2_with fail
  refine (drawChainTime_any _ _ _ xs0 _ HR.out (by omega)).mono ?_
  rintro e w1 ⟨v, k, aa, bb, rfl, hlo, han, b1⟩
  have HRD := Lib.hid (fun W (hW : Below w1.heap.size w1 W) => (hlo.rd han).below hW)
  have HB1 := Lib.hid b1
  have HX1 := Lib.hid (Bk.start (T := 28) w1 v)
  obtain ⟨t, q, hC⟩ : ∃ t q, chainTime v.me k aa bb = (t, q) := ⟨_, _, rfl⟩
  obtain ⟨f1, c1, hF1⟩ : ∃ t q, worstGap v.me k aa = (t, q) := ⟨_, _, rfl⟩
  obtain ⟨f2, c2, hF2⟩ : ∃ t q, worstGap v.me k bb = (t, q) := ⟨_, _, rfl⟩
  have HCI := Lib.hid (fun W (hW : Below w1.heap.size w1 W) => (show Calls Tryz.prog 55 #[mvVal v, .int .i64 k, .int .i64 aa, .int .i64 bb] W fun e w' => e = .returned (.tuple #[.int .i64 t, .int .i64 q]) ∧ Below W.heap.size W w' from by have h := chainTime_any v k aa bb W (HRD.out W hW); rwa [hC] at h))
  have HCS := Lib.hid (fun W (hW : Below w1.heap.size w1 W) => (show Calls Tryz.prog 56 #[mvVal v, .int .i64 k, .int .i64 aa, .int .i64 bb] W fun e w' => e = .returned (.tuple #[.int .i64 t, .int .i64 q]) ∧ Below W.heap.size W w' from by have h := sChainTime_any v k aa bb W (HRD.out W hW); rwa [hC] at h))
  have HWA := Lib.hid (fun W (hW : Below w1.heap.size w1 W) => (show Calls Tryz.prog 38 #[mvVal v, .int .i64 k, .int .i64 aa] W fun e w' => e = .returned (.tuple #[.int .i64 f1, .int .i64 c1]) ∧ Below W.heap.size W w' from by have h := worstGap_any v k aa W (HRD.out W hW); rwa [hF1] at h))
  have HWB := Lib.hid (fun W (hW : Below w1.heap.size w1 W) => (show Calls Tryz.prog 38 #[mvVal v, .int .i64 k, .int .i64 bb] W fun e w' => e = .returned (.tuple #[.int .i64 f2, .int .i64 c2]) ∧ Below W.heap.size W w' from by have h := worstGap_any v k bb W (HRD.out W hW); rwa [hF2] at h))
  have HLAW := Lib.hid (fun (h0 : q = 0) => by
    have h := chains_law (m := v.me) (k := k) (a := aa) (b := bb) (t := t) (by rw [hC, h0])
    rw [hF1, hF2] at h
    exact h)
  have htt : (t != t) = false := bne_self_eq_false _
  have hqq : (q != q) = false := bne_self_eq_false _
  clear hlo han b1 hC hF1 hF2 HR
  unfold mvVal at HCI HCS HWA HWB ⊢
  go_upto_region 4 with fail
  generalize w1.alloc (.cells #[.int .i64 v.id, .slice v.no v.n.length v.nc, .slice v.mo v.cs.length v.mc, .slice v.eo v.e.length v.ec] 28) = wx at HX1 ⊢
  obtain ⟨z0, z1, z2, z3⟩ := HX1.out.at_.all
  go_wp2_with fail
  refine (HCI.out _ HX1.out.below).mono ?_
  rintro e wy1 ⟨rfl, b⟩
  have HX2 := Lib.hid (HX1.out.call b)
  clear z0 z1 z2 z3 b HX1
  obtain ⟨z0, z1, z2, z3⟩ := HX2.out.at_.all
  go_wp2_with fail
  refine (HCS.out _ HX2.out.below).mono ?_
  rintro e wy2 ⟨rfl, b⟩
  have HX3 := Lib.hid (HX2.out.call b)
  clear z0 z1 z2 z3 b HX2
  by_cases hq0 : q = 0
  rotate_left
  · have hqb : (q != 0) = true := by simp [hq0]
    clear HLAW hq0
    go_wp2_with fail
    go_ret
    exact ⟨rfl, below_two HB1.out HX3.out.below⟩
  obtain ⟨g1, g2, e1, e2, l1, l2, ⟨a1, a2⟩, b1, b2⟩ := HLAW.out hq0
  obtain ⟨rfl, hc1⟩ := Prod.mk.inj e1
  obtain ⟨rfl, hc2⟩ := Prod.mk.inj e2
  rw [hc1] at HWA
  rw [hc2] at HWB
  clear e1 e2 hc1 hc2 HLAW
  have hqb : (q != 0) = false := by simp [hq0]
  have hw1 : IntKind.i64.wrap (f1 + f2) = f1 + f2 := by rw [IntKind.wrap_i64]; omega
  have hw2 : IntKind.i64.wrap (f1 + f2 + 2000) = f1 + f2 + 2000 := by rw [IntKind.wrap_i64]; omega
  clear hq0 a1 a2 b1 b2
  obtain ⟨z0, z1, z2, z3⟩ := HX3.out.at_.all
  go_wp2_with fail
  refine (HWA.out _ HX3.out.below).mono ?_
  rintro e wy3 ⟨rfl, b⟩
  have HX4 := Lib.hid (HX3.out.call b)
  clear z0 z1 z2 z3 b HX3
  obtain ⟨z0, z1, z2, z3⟩ := HX4.out.at_.all
  go_wp2_with fail
  refine (HWB.out _ HX4.out.below).mono ?_
  rintro e wy4 ⟨rfl, b⟩
  have HX5 := Lib.hid (HX4.out.call b)
  clear z0 z1 z2 z3 b HX4
  go_wp2_with fail
  go_ret
  exact ⟨rfl, below_two HB1.out HX5.out.below⟩


end Go.Proofs.YthihjhidjnadaaaGreat.fnChains
