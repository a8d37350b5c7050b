/-
  The walk of laws.FnWellFormed: at every input it returns true and writes nothing that was there.
-/
import Derived.Test.YtljdkckoelgkbaaGreatRows
import Derived.Test.YtljdkckoelgkbaaGreatPyA
import Derived.Test.YtljdkckoelgkbaaGreatPyN
import Derived.Test.YtljdkckoelgkbaaGreatPyM
import Derived.Test.YtljdkckoelgkbaaGreatPyE
import Derived.Test.YtljdkckoelgkbaaGreatPyS
import Derived.Test.YtljdkckoelgkbaaGreatPyL
import Derived.Test.YtljdkckoelgkbaaGreatPyZ
import Derived.Test.YtljdkckoelgkbaaGreatPyI
import Derived.Test.YtljdkckoelgkbaaGreatPyT
import Derived.Test.YtljdkckoelgkbaaGreatPyC
import Derived.Test.YtljdkckoelgkbaaGreatPyD
import Derived.Test.YtljdkckoelgkbaaGreatPyB
import Derived.WalkKit
import Derived.ProofKit
import Derived.OpenShut
import Derived.ShutString
import Derived.ChangeOld
import Derived.Below
namespace Go.Proofs.YtljdkckoelgkbaaGreat.fnWellFormed
open Go.ChangeShapes Go.WideShapes Go.ChangeAt Go.RowKit
open Go.ChangeMaps (open_string shut_string)
set_option linter.unusedVariables false


/-- WHAT THE WALK IS TOLD OF A SLICE OF INTEGERS THAT CAME IN: it is nil; or it leads to a row of 'cap' cells, the numbers 'zs' (the first 'len' are its elements, the rest its spare room), each fitting its kind. -/
def IsRow (k : IntKind) (w : World) (a : Option Addr) (len cap : Nat) (zs : List Int) : Prop :=
  (a = none ∧ len = 0 ∧ cap = 0 ∧ zs = []) ∨
  ∃ x, a = some x ∧ len ≤ cap ∧ cap ≤ maxLen ∧ zs.length = cap ∧ (∀ i, i < zs.length → w.cell? (x.add i) = some (.int k (zs.getD i 0))) ∧ ∀ n ∈ zs, (Lit.int k n).wf = true

/-! ### STEP 1: THE WALK: the Go text returns true, AND WRITES NOTHING THAT WAS THERE: 'Below w.heap.size w w'' (Derived/Below.lean: '.refl', '.alloc', '.drew', '.setCell' at a new block, '.trans'). Open each 'IsRow' by 'rcases' AHEAD of 'go_enter'; part every test ahead of the walk. -/
set_option maxRecDepth 100000 in
theorem walk (a0 : Option Addr) (len0 cap0 : Nat) (z0 : List Int) (w : World) (w0 : IsRow .u8 w a0 len0 cap0 z0) :
    Calls Tryz.prog 3 #[.slice a0 len0 cap0] w fun e w' => e = .returned (.bool true) ∧ Below w.heap.size w w' := by
  have hr := rdB_of_row w0
  clear w0
  generalize List.take len0 z0 = xs0 at hr
  have HR := Lib.hid hr; clear hr
  by_cases hbig : len0 ≤ 4096
  rotate_left
  · go_enter Tryz.func3, Tryz.ntmps3
    go_wp2_with fail
    refine (big_yes _ _ _ _ hbig).mono ?_
    rintro e w' ⟨rfl, rfl⟩
    go_wp2
    go_ret
    exact ⟨rfl, Below.refl _ _⟩
  go_enter Tryz.func3, Tryz.ntmps3
  go_wp2_with fail
  refine (big_no _ _ _ _ hbig).mono ?_
  rintro e w' ⟨rfl, rfl⟩
  go_wp2_with fail
  refine (drawCycleTime_any _ _ _ xs0 _ HR.out (by omega)).mono ?_
  rintro e w1 ⟨v, k, rfl, hrd, han, b1⟩
  have HRD := Lib.hid (fun W (hW : Below w1.heap.size w1 W) => hrd.below hW)
  have HB1 := Lib.hid b1
  have HX1 := Lib.hid (Bk.start (T := 28) w1 v)
  obtain ⟨F, hF⟩ : ∃ F, firstFault v.me = F := ⟨_, rfl⟩
  obtain ⟨c, q, hC⟩ : ∃ c q, cycleTime v.me k = (c, q) := ⟨_, _, rfl⟩
  obtain ⟨r, z, hT⟩ : ∃ r z, roundTime v.me k = (r, z) := ⟨_, _, rfl⟩
  have HFI := Lib.hid (fun W (hW : Below w1.heap.size w1 W) => (show Calls Tryz.prog 9 #[mvVal v] W fun e w' => e = .returned (.int .i64 F) ∧ Below W.heap.size W w' from by have h := firstFault_any v W (HRD.out W hW); rwa [hF] at h))
  have HFS := Lib.hid (fun W (hW : Below w1.heap.size w1 W) => (show Calls Tryz.prog 10 #[mvVal v] W fun e w' => e = .returned (.int .i64 F) ∧ Below W.heap.size W w' from by have h := sFirstFault_any v W (HRD.out W hW); rwa [hF] at h))
  have HIM := Lib.hid (fun W (hW : Below w1.heap.size w1 W) => (show Calls Tryz.prog 11 #[mvVal v] W fun e w' => e = .returned (.bool (F == 0)) ∧ Below W.heap.size W w' from by have h := isMedl_any v W (HRD.out W hW); rwa [show isMedl v.me = (F == 0) from by unfold isMedl; rw [hF]; rfl] at h))
  have HCI := Lib.hid (fun W (hW : Below w1.heap.size w1 W) => (show Calls Tryz.prog 12 #[mvVal v, .int .i64 k] W fun e w' => e = .returned (.tuple #[.int .i64 c, .int .i64 q]) ∧ Below W.heap.size W w' from by have h := cycleTime_any v k W (HRD.out W hW); rwa [hC] at h))
  have HCS := Lib.hid (fun W (hW : Below w1.heap.size w1 W) => (show Calls Tryz.prog 13 #[mvVal v, .int .i64 k] W fun e w' => e = .returned (.tuple #[.int .i64 c, .int .i64 q]) ∧ Below W.heap.size W w' from by have h := scycleTime_any v k W (HRD.out W hW); rwa [hC] at h))
  have HTI := Lib.hid (fun W (hW : Below w1.heap.size w1 W) => (show Calls Tryz.prog 14 #[mvVal v, .int .i64 k] W fun e w' => e = .returned (.tuple #[.int .i64 r, .int .i64 z]) ∧ Below W.heap.size W w' from by have h := roundTime_any v k W (HRD.out W hW); rwa [hT] at h))
  have HTS := Lib.hid (fun W (hW : Below w1.heap.size w1 W) => (show Calls Tryz.prog 15 #[mvVal v, .int .i64 k] W fun e w' => e = .returned (.tuple #[.int .i64 r, .int .i64 z]) ∧ Below W.heap.size W w' from by have h := sroundTime_any v k W (HRD.out W hW); rwa [hT] at h))
  have HLAW := Lib.hid (fun (h0 : q = 0) => by
    have h := cycle_law (m := v.me) (k := k) (c := c) (by rw [hC, h0])
    rw [hT] at h
    exact h)
  have hFF : (F != F) = false := bne_self_eq_false _
  have hFb : ((F == 0) != (F == 0)) = false := by simp
  have hcc : (c != c) = false := bne_self_eq_false _
  have hqq : (q != q) = false := bne_self_eq_false _
  have hrr : (r != r) = false := bne_self_eq_false _
  have hzz : (z != z) = false := bne_self_eq_false _
  clear hrd han b1 hF hC hT HR
  unfold mvVal at HFI HFS HIM HCI HCS HTI HTS ⊢
  go_upto_region 4 with fail
  generalize w1.alloc (.cells #[.int .i64 v.id, .slice v.no v.n.length v.nc, .slice v.mo v.cs.length v.mc, .slice v.eo v.e.length v.ec] 28) = wx at HX1 ⊢
  obtain ⟨z0, z1, z2, z3⟩ := HX1.out.at_.all
  go_wp2_with fail
  refine (HFI.out _ HX1.out.below).mono ?_
  rintro e wy0 ⟨rfl, b⟩
  have HX2 := Lib.hid (HX1.out.call b)
  clear z0 z1 z2 z3 b HX1 HFI
  obtain ⟨z0, z1, z2, z3⟩ := HX2.out.at_.all
  go_wp2_with fail
  refine (HFS.out _ HX2.out.below).mono ?_
  rintro e wy1 ⟨rfl, b⟩
  have HX3 := Lib.hid (HX2.out.call b)
  clear z0 z1 z2 z3 b HX2 HFS
  obtain ⟨z0, z1, z2, z3⟩ := HX3.out.at_.all
  go_wp2_with fail
  refine (HIM.out _ HX3.out.below).mono ?_
  rintro e wy2 ⟨rfl, b⟩
  have HX4 := Lib.hid (HX3.out.call b)
  clear z0 z1 z2 z3 b HX3 HIM
  obtain ⟨z0, z1, z2, z3⟩ := HX4.out.at_.all
  go_wp2_with fail
  refine (HCI.out _ HX4.out.below).mono ?_
  rintro e wy3 ⟨rfl, b⟩
  have HX5 := Lib.hid (HX4.out.call b)
  clear z0 z1 z2 z3 b HX4 HCI
  obtain ⟨z0, z1, z2, z3⟩ := HX5.out.at_.all
  go_wp2_with fail
  refine (HCS.out _ HX5.out.below).mono ?_
  rintro e wy4 ⟨rfl, b⟩
  have HX6 := Lib.hid (HX5.out.call b)
  clear z0 z1 z2 z3 b HX5 HCS
  obtain ⟨z0, z1, z2, z3⟩ := HX6.out.at_.all
  go_wp2_with fail
  refine (HTI.out _ HX6.out.below).mono ?_
  rintro e wy5 ⟨rfl, b⟩
  have HX7 := Lib.hid (HX6.out.call b)
  clear z0 z1 z2 z3 b HX6 HTI
  obtain ⟨z0, z1, z2, z3⟩ := HX7.out.at_.all
  go_wp2_with fail
  refine (HTS.out _ HX7.out.below).mono ?_
  rintro e wy6 ⟨rfl, b⟩
  have HX8 := Lib.hid (HX7.out.call b)
  clear z0 z1 z2 z3 b HX7 HTS
  by_cases hq0 : q = 0
  rotate_left
  · have hqb : (q != 0) = true := by simp [hq0]
    clear HLAW hq0
    go_wp2_with fail
    go_ret
    exact ⟨rfl, below_two HB1.out HX8.out.below⟩
  · obtain ⟨j, hkj, hjn, -, hrt, hcr, hc0, hc1, hrb, hR1, hR2⟩ := HLAW.out hq0
    have hqb : (q != 0) = false := by simp [hq0]
    obtain ⟨hr1, -⟩ := Prod.mk.inj hrt
    rw [← hr1] at hcr hrb
    have hjc : j < v.cs.length := by have e := mds_len v.cs; have : j < (mds v.cs).length := hjn; omega
    have hmd : mdOf v.me.modes j = (mcOf v.cs j).md := by
      show mdOf (mds v.cs) j = (mcOf v.cs j).md
      simp [mdOf, mcOf, mds, List.getD, hjc]
    rw [hmd] at hcr hR1 hR2
    have hrm := (HRD.out _ HX8.out.below).rm
    obtain ⟨bm, om, hmo, hcell⟩ := hrm.here (by omega)
    have hc := (hcell j hjc).c0
    generalize (mcOf v.cs j).md.rounds = R at hcr hR1 hR2 hc
    obtain ⟨z0, z1, z2, z3⟩ := HX8.out.at_.all
    rw [hmo] at z2
    subst hkj
    have hml := (HRD.out _ HX8.out.below).mle
    have hji : (j : Int) < (v.cs.length : Int) := by omega
    have hjk : (j : Int) < (v.mc : Int) := by omega
    have hRr : R * r ≤ 32000 := by rw [← hcr]; exact hc1
    have hRr0 : 0 ≤ R * r := by rw [← hcr]; omega
    have hwr : IntKind.i64.wrap (R * r) = c := by rw [IntKind.wrap_i64]; rw [hcr]; generalize R * r = y at hRr hRr0 ⊢; omega
    have hce : (c == c) = true := by simp
    clear HLAW hq0 hrt hcr hrb hmd hrm hcell hR1 hR2 hmo hjn hr1 hRr hRr0 hml
    go_wp2_with fail
    go_ret
    exact ⟨rfl, below_two HB1.out HX8.out.below⟩


end Go.Proofs.YtljdkckoelgkbaaGreat.fnWellFormed
