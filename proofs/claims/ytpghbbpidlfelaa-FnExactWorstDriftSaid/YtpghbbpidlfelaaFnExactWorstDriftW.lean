/-
  The walk of laws.FnExactWorstDrift: at every input it returns true and writes nothing that was there.
-/
import Derived.Test.YtpghbbpidlfelaaRows
import Derived.Test.YtpghbbpidlfelaaN8
import Derived.Test.YtpghbbpidlfelaaL1
import Derived.Test.YtpghbbpidlfelaaOpenNd
import Derived.WalkKit
import Derived.ProofKit
import Derived.OpenShut
import Derived.ShutString
import Derived.ChangeOld
import Derived.Below
import Derived.Lib.SmallJoins
namespace Go.Proofs.Ytpghbbpidlfelaa.fnExactWorstDrift
open Go.ChangeShapes Go.WideShapes Go.ChangeAt Go.RowKit Go.Joins
open Go.ChangeMaps (open_string shut_string)
set_option linter.unusedVariables false
set_option maxRecDepth 100000 in set_option maxHeartbeats 2000000 in
theorem walk (a0 : Option Addr) (len0 cap0 : Nat) (t0 : List Nd) (a1 : Int) (w : World) (w0 : NdRow w a0 len0 cap0 t0) (w1 : (Lit.int .i64 a1).wf = true) :
    Calls Try.prog 11 #[.slice a0 len0 cap0, .int .i64 a1] w fun e w' => e = .returned (.bool true) ∧ Below w.heap.size w w' := by
  obtain ⟨hcap0, hmax0, hr0, hnm0⟩ := w0
  generalize t0 = x0 at hr0 hnm0
  obtain rfl : x0.length = len0 := hr0.len
  have hm0 : cap0 ≤ 9223372036854775807 := by unfold maxLen at hmax0; omega
  have hsz0 := fun W (h : RdN W a0 x0.length x0) => szNodes_any a0 x0.length cap0 x0 W h (by omega) (fun i hi => by have := hnm0 i hi; unfold maxLen at this; omega)
  have HSZ0 := Lib.hid hsz0; clear hsz0 hnm0 hmax0
  rcases szS_neg x0 with hneg | ⟨hpos, hposU⟩
  · go_enter Try.func11, Try.ntmps11
    go_wp2_with fail
    refine (HSZ0.out _ hr0).mono ?_
    rintro e w1 ⟨rfl, b1⟩
    rw [hneg]
    go_wp2_with fail
    go_ret
    exact ⟨rfl, b1⟩
  obtain ⟨hbig0, hsm0⟩ := szS_ok hpos
  obtain ⟨r0, r1, hF⟩ : ∃ r0 r1, worstDrift x0 a1 = (r0, r1) := ⟨_, _, rfl⟩
  have HF := Lib.hid hF; clear hF
  have H : Hold w w [] := Hold.start
  go_enter Try.func11, Try.ntmps11
  go_wp2_with fail
  refine (HSZ0.out _ hr0).mono ?_
  rintro e w1' ⟨rfl, b1⟩
  replace H := H.still b1
  clear b1 HSZ0
  have hnn : ¬ szS x0 1048576 < 0 := by omega
  generalize szS x0 1048576 = left at hnn hpos hposU ⊢
  go_wp2_with fail
  refine (toNodes_any _ _ _ _ _ (hr0.below H.below) hbig0).mono ?_
  rintro e w2' m2
  obtain ⟨p2, c2, rfl, o2, -, b2⟩ := m2.get
  replace H := H.makeN o2 b2
  clear o2 b2 m2
  go_wp2_with fail
  refine (sWorstDrift_any _ _ _ _ _ _ (H.rdN 0 rfl) (OwnN.cap (H.getN 0 rfl)).1 (OwnN.cap (H.getN 0 rfl)).2 hsm0).mono ?_
  rintro e w3' ⟨rfl, b3⟩
  replace H := H.still b3
  clear b3
  rw [HF.out]
  go_wp2_with fail
  refine (toNodes_any _ _ _ _ _ (hr0.below H.below) hbig0).mono ?_
  rintro e w4' m4
  obtain ⟨p4, c4, rfl, o4, -, b4⟩ := m4.get
  replace H := H.makeN o4 b4
  clear o4 b4 m4
  go_wp2_with fail
  refine (worstDrift_any _ _ _ _ _ _ (H.rdN 0 rfl) (OwnN.cap (H.getN 0 rfl)).1 (OwnN.cap (H.getN 0 rfl)).2 hsm0).mono ?_
  rintro e w5' ⟨rfl, b5⟩
  replace H := H.still b5
  clear b5
  rw [HF.out]
  go_wp2_with fail
  refine (toNodes_any _ _ _ _ _ (hr0.below H.below) hbig0).mono ?_
  rintro e w6' m6
  obtain ⟨p6, c6, rfl, o6, -, b6⟩ := m6.get
  replace H := H.makeN o6 b6
  clear o6 b6 m6
  go_wp2_with fail
  refine (eqNodes_yes _ _ _ _ _ _ _ (H.rdN 1 rfl) (H.rdN 0 rfl) (by omega) (OwnN.cap (H.getN 1 rfl)).1 (OwnN.cap (H.getN 0 rfl)).1).mono ?_
  rintro e w7' ⟨rfl, b7⟩
  replace H := H.still b7
  clear b7
  go_wp2_with fail
  go_ret
  exact ⟨rfl, H.below⟩
end Go.Proofs.Ytpghbbpidlfelaa.fnExactWorstDrift
