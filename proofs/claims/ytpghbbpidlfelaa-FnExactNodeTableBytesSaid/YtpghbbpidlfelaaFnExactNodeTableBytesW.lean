/-
  The walk of laws.FnExactNodeTableBytes: at every input it returns true and writes nothing that was there.
-/
import Derived.Test.YtpghbbpidlfelaaRows
import Derived.Test.YtpghbbpidlfelaaNA
import Derived.Test.YtpghbbpidlfelaaL3
import Derived.Test.YtpghbbpidlfelaaOpenNd
import Derived.WalkKit
import Derived.ProofKit
import Derived.OpenShut
import Derived.ShutString
import Derived.ChangeOld
import Derived.Below
import Derived.Lib.SmallJoins
namespace Go.Proofs.Ytpghbbpidlfelaa.fnExactNodeTableBytes
open Go.ChangeShapes Go.WideShapes Go.ChangeAt Go.RowKit Go.Joins
open Go.ChangeMaps (open_string shut_string)
set_option linter.unusedVariables false
set_option maxRecDepth 100000 in set_option maxHeartbeats 2000000 in
theorem walk (a0 : Option Addr) (len0 cap0 : Nat) (t0 : List Nd) (w : World) (w0 : NdRow w a0 len0 cap0 t0) :
    Calls Try.prog 7 #[.slice a0 len0 cap0] w fun e w' => e = .returned (.bool true) ∧ Below w.heap.size w w' := by
  obtain ⟨hcap0, hmax0, hr0, hnm0⟩ := w0
  generalize t0 = x0 at hr0 hnm0
  obtain rfl : x0.length = len0 := hr0.len
  have hm0 : cap0 ≤ 9223372036854775807 := by unfold maxLen at hmax0; omega
  have hsz0 := fun W (h : RdN W a0 x0.length x0) => szNodes_any a0 x0.length cap0 x0 W h (by omega) (fun i hi => by have := hnm0 i hi; unfold maxLen at this; omega)
  have HSZ0 := Lib.hid hsz0; clear hsz0 hnm0 hmax0
  rcases szS_neg x0 with hneg | ⟨hpos, hposU⟩
  · go_enter Try.func7, Try.ntmps7
    go_wp2_with fail
    refine (HSZ0.out _ hr0).mono ?_
    rintro e w1 ⟨rfl, b1⟩
    rw [hneg]
    go_wp2_with fail
    go_ret
    exact ⟨rfl, b1⟩
  obtain ⟨hbig0, hsm0⟩ := szS_ok hpos
  obtain ⟨r0, r1, hF⟩ : ∃ r0 r1, nodeTableBytes x0 = (r0, r1) := ⟨_, _, rfl⟩
  have hlen : r0.length ≤ 1048576 := by have h := nodeTableBytes_len x0; rw [hF] at h; exact h
  have HF := Lib.hid hF; clear hF
  have H : Hold w w [] := Hold.start
  go_enter Try.func7, Try.ntmps7
  go_wp2_with fail
  refine (HSZ0.out _ hr0).mono ?_
  rintro e w1' ⟨rfl, b1⟩
  replace H := H.still b1
  clear b1 HSZ0
  have hnn : ¬ szS x0 1048576 < 0 := by omega
  generalize szS x0 1048576 = left at hnn hpos hposU ⊢
  go_wp2_with fail
  refine (toNodes_any _ _ _ _ _ (hr0.below H.below) hbig0).mono ?_
  rintro e w2' m2
  obtain ⟨p2, c2, rfl, o2, -, b2⟩ := m2.get
  replace H := H.makeN o2 b2
  clear o2 b2 m2
  go_wp2_with fail
  refine (sNodeTableBytes_any _ _ _ _ _ (H.rdN 0 rfl) (OwnN.cap (H.getN 0 rfl)).1 (OwnN.cap (H.getN 0 rfl)).2 hsm0).mono ?_
  rintro e w3' m3
  rw [HF.out] at m3
  change Makes2 2 _ r0 r1 _ _ at m3
  obtain ⟨p3, c3, rfl, o3, -, b3⟩ := m3.get
  replace H := H.makeI o3 b3
  clear o3 b3 m3
  go_wp2_with fail
  refine (toNodes_any _ _ _ _ _ (hr0.below H.below) hbig0).mono ?_
  rintro e w4' m4
  obtain ⟨p4, c4, rfl, o4, -, b4⟩ := m4.get
  replace H := H.makeN o4 b4
  clear o4 b4 m4
  go_wp2_with fail
  refine (nodeTableBytes_any _ _ _ _ _ (H.rdN 0 rfl) (OwnN.cap (H.getN 0 rfl)).1 (OwnN.cap (H.getN 0 rfl)).2 hsm0).mono ?_
  rintro e w5' m5
  rw [HF.out] at m5
  change Makes2 2 _ r0 r1 _ _ at m5
  obtain ⟨p5, c5, rfl, o5, -, b5⟩ := m5.get
  replace H := H.makeI o5 b5
  clear o5 b5 m5
  go_wp2_with fail
  refine (eq_yes _ _ _ _ _ _ _ _ (H.rdI 0 rfl) (H.rdI 2 rfl) (by omega)).mono ?_
  rintro e w6' ⟨rfl, b6⟩
  replace H := H.still b6
  clear b6
  go_wp2_with fail
  refine (toNodes_any _ _ _ _ _ (hr0.below H.below) hbig0).mono ?_
  rintro e w7' m7
  obtain ⟨p7, c7, rfl, o7, -, b7⟩ := m7.get
  replace H := H.makeN o7 b7
  clear o7 b7 m7
  go_wp2_with fail
  refine (eqNodes_yes _ _ _ _ _ _ _ (H.rdN 2 rfl) (H.rdN 0 rfl) (by omega) (OwnN.cap (H.getN 2 rfl)).1 (OwnN.cap (H.getN 0 rfl)).1).mono ?_
  rintro e w8' ⟨rfl, b8⟩
  replace H := H.still b8
  clear b8
  go_wp2_with fail
  refine (markNodes_any _ _ _ _ _ _ _ rfl (H.getN 2 rfl) (by omega) (by omega) (by omega)).mono ?_
  rintro e w9' ⟨rfl, o9, g9⟩
  replace H := H.mark (q := nds 41 (Value.slice p4 x0.length c4) (marksN (1) x0.length)) [nds 41 (Value.slice p7 x0.length c7) x0, ints 2 (Value.slice p5 r0.length c5) r0] rfl o9 g9
  clear o9 g9
  go_wp2_with fail
  refine (eq_yes _ _ _ _ _ _ _ _ (H.rdI 1 rfl) (H.rdI 3 rfl) (by omega)).mono ?_
  rintro e w10' ⟨rfl, b10⟩
  replace H := H.still b10
  clear b10
  go_wp2_with fail
  refine (mark_own _ _ _ _ _ _ _ rfl (H.getI 1 rfl) (by omega) (by omega) (by omega)).mono ?_
  rintro e w11' ⟨rfl, o11, g11⟩
  replace H := H.mark (q := ints 2 (Value.slice p5 r0.length c5) (marks (1) r0.length)) [nds 41 (Value.slice p7 x0.length c7) x0] rfl o11 g11
  clear o11 g11
  go_wp2_with fail
  have hh12 := H.rdI 1 rfl
  rw [marks_len] at hh12
  refine (held_yes _ _ _ _ _ hh12 (by omega) (by omega) (by omega)).mono ?_
  rintro e w' ⟨rfl, rfl⟩
  clear hh12
  go_wp2_with fail
  refine (toNodes_any _ _ _ _ _ (hr0.below H.below) hbig0).mono ?_
  rintro e w13' m13
  obtain ⟨p13, c13, rfl, o13, -, b13⟩ := m13.get
  replace H := H.makeN o13 b13
  clear o13 b13 m13
  go_wp2_with fail
  refine (nodeTableBytes_any _ _ _ _ _ (H.rdN 0 rfl) (OwnN.cap (H.getN 0 rfl)).1 (OwnN.cap (H.getN 0 rfl)).2 hsm0).mono ?_
  rintro e w14' m14
  rw [HF.out] at m14
  change Makes2 2 _ r0 r1 _ _ at m14
  obtain ⟨p14, c14, rfl, o14, -, b14⟩ := m14.get
  replace H := H.makeI o14 b14
  clear o14 b14 m14
  go_wp2_with fail
  refine (eq_yes _ _ _ _ _ _ _ _ (H.rdI 0 rfl) (H.rdI 5 rfl) (by omega)).mono ?_
  rintro e w15' ⟨rfl, b15⟩
  replace H := H.still b15
  clear b15
  go_wp2_with fail
  have hh16 := H.rdI 3 rfl
  rw [marks_len] at hh16
  refine (held_yes _ _ _ _ _ hh16 (by omega) (by omega) (by omega)).mono ?_
  rintro e w' ⟨rfl, rfl⟩
  clear hh16
  go_wp2_with fail
  go_ret
  exact ⟨rfl, H.below⟩
end Go.Proofs.Ytpghbbpidlfelaa.fnExactNodeTableBytes
