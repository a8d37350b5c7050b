/-
  The walk of laws.FnExactAreDemands: at every input it returns true and writes nothing that was there.
-/
import Derived.Test.YtbbodgeoenjdkaaRows
import Derived.Test.YtbbodgeoenjdkaaPlDL
import Derived.Test.YtbbodgeoenjdkaaPl1
import Derived.Test.YtbbodgeoenjdkaaPlD
import Derived.WalkKit
import Derived.ProofKit
import Derived.OpenShut
import Derived.ShutString
import Derived.ChangeOld
import Derived.Below
import Derived.Lib.SmallJoins
namespace Go.Proofs.Ytbbodgeoenjdkaa.fnExactAreDemands
open Go.ChangeShapes Go.WideShapes Go.ChangeAt Go.RowKit Go.Joins
open Go.ChangeMaps (open_string shut_string)
set_option linter.unusedVariables false
set_option maxRecDepth 100000 in set_option maxHeartbeats 4000000 in set_option linter.unnecessarySimpa false in set_option linter.unusedSimpArgs false in set_option linter.unusedVariables false in
theorem walk (a0 : Option Addr) (len0 cap0 : Nat) (e0 : List Dm) (w : World) (w0 : DmRow w a0 len0 cap0 e0) :
    Calls Try.prog 6 #[.slice a0 len0 cap0] w fun e w' => e = .returned (.bool true) ∧ Below w.heap.size w w' := by
  obtain ⟨hcap0, hmax0, hr0, hwf0⟩ := w0
  clear hwf0
  obtain rfl : e0.length = len0 := hr0.len
  have hm0 : cap0 ≤ 9223372036854775807 := by unfold maxLen at hmax0; omega
  have hq0 : (0 : Int) ≤ 1048576 := by omega
  have hq1 : (1048576 : Int) ≤ 1048576 := by omega
  have HSZ0 := Lib.hid (fun W => szdms_any a0 e0.length cap0 e0 (1048576 : Int) hq0 hq1 W rfl (by omega))
  by_cases hneg0 : szDm e0 (1048576 : Int) < 0
  · go_enter Try.func6, Try.ntmps6
    go_wp2_with fail
    refine (HSZ0.out _).mono ?_
    rintro e w0_ ⟨rfl, rfl⟩
    generalize szDm e0 (1048576 : Int) = left at hneg0 ⊢
    go_wp2_with fail
    go_ret
    exact ⟨rfl, Below.refl _ _⟩
  have hok0 := szDm_ok (t := e0) (m := (1048576 : Int)) (by omega)
  have hbig0 : e0.length ≤ 1048576 := by omega
  obtain ⟨r0, hF⟩ : ∃ r0, areDms e0 = r0 := ⟨_, rfl⟩
  have HF := Lib.hid hF; clear hF
  have hbne : (r0 != r0) = false := bne_self_eq_false _
  have H : Hold w w [] := Hold.start
  go_enter Try.func6, Try.ntmps6
  go_wp2_with fail
  refine (HSZ0.out _).mono ?_
  rintro e w0_ ⟨rfl, rfl⟩
  generalize szDm e0 (1048576 : Int) = left at hneg0 ⊢
  go_wp2_with fail
  refine (todms_any _ _ _ _ _ (hr0.below H.below) hbig0).mono ?_
  rintro e w1' m1
  obtain ⟨p1, c1, rfl, o1, -, b1⟩ := m1.get
  replace H : Hold w _ ([itsDm 38 (Value.slice p1 e0.length c1) (e0)] ++ (([] : List It))) := H.makeDm o1 b1
  clear o1 b1 m1
  go_wp2_with fail
  refine (areDmsS_any _ _ _ _ _ (Hold.rdDm_ (E := 38) (t := e0) (ao := p1) (n := e0.length) (cap := c1) (L1 := ([] : List It)) (L2 := ([] : List It)) (by simpa only [List.append_assoc, List.nil_append] using H)) (by omega)).mono ?_
  rintro e w2' ⟨rfl, b2⟩
  replace H := H.still b2
  clear b2
  rw [HF.out]
  go_wp2_with fail
  refine (todms_any _ _ _ _ _ (hr0.below H.below) hbig0).mono ?_
  rintro e w3' m3
  obtain ⟨p3, c3, rfl, o3, -, b3⟩ := m3.get
  replace H : Hold w _ ([itsDm 38 (Value.slice p3 e0.length c3) (e0)] ++ ([itsDm 38 (Value.slice p1 e0.length c1) (e0)] ++ (([] : List It)))) := H.makeDm o3 b3
  clear o3 b3 m3
  go_wp2_with fail
  refine (areDmsI_any _ _ _ _ _ (Hold.rdDm_ (E := 38) (t := e0) (ao := p3) (n := e0.length) (cap := c3) (L1 := ([] : List It)) (L2 := [itsDm 38 (Value.slice p1 e0.length c1) (e0)] ++ (([] : List It))) (by simpa only [List.append_assoc, List.nil_append] using H)) (by omega)).mono ?_
  rintro e w4' ⟨rfl, b4⟩
  replace H := H.still b4
  clear b4
  rw [HF.out]
  go_wp2_with fail
  refine (todms_any _ _ _ _ _ (hr0.below H.below) hbig0).mono ?_
  rintro e w5' m5
  obtain ⟨p5, c5, rfl, o5, -, b5⟩ := m5.get
  replace H : Hold w _ ([itsDm 38 (Value.slice p5 e0.length c5) (e0)] ++ ([itsDm 38 (Value.slice p3 e0.length c3) (e0)] ++ ([itsDm 38 (Value.slice p1 e0.length c1) (e0)] ++ (([] : List It))))) := H.makeDm o5 b5
  clear o5 b5 m5
  go_wp2_with fail
  refine (eqdms_yes _ _ _ _ _ _ _ (Hold.rdDm_ (E := 38) (t := e0) (ao := p3) (n := e0.length) (cap := c3) (L1 := [itsDm 38 (Value.slice p5 e0.length c5) (e0)] ++ (([] : List It))) (L2 := [itsDm 38 (Value.slice p1 e0.length c1) (e0)] ++ (([] : List It))) (by simpa only [List.append_assoc, List.nil_append] using H)) (Hold.rdDm_ (E := 38) (t := e0) (ao := p5) (n := e0.length) (cap := c5) (L1 := ([] : List It)) (L2 := [itsDm 38 (Value.slice p3 e0.length c3) (e0)] ++ ([itsDm 38 (Value.slice p1 e0.length c1) (e0)] ++ (([] : List It)))) (by simpa only [List.append_assoc, List.nil_append] using H)) (by omega) (OwnDm.cap (Hold.getDm_ (E := 38) (t := e0) (v := Value.slice p3 e0.length c3) (L1 := [itsDm 38 (Value.slice p5 e0.length c5) (e0)] ++ (([] : List It))) (L2 := [itsDm 38 (Value.slice p1 e0.length c1) (e0)] ++ (([] : List It))) (by simpa only [List.append_assoc, List.nil_append] using H))).1 (OwnDm.cap (Hold.getDm_ (E := 38) (t := e0) (v := Value.slice p5 e0.length c5) (L1 := ([] : List It)) (L2 := [itsDm 38 (Value.slice p3 e0.length c3) (e0)] ++ ([itsDm 38 (Value.slice p1 e0.length c1) (e0)] ++ (([] : List It)))) (by simpa only [List.append_assoc, List.nil_append] using H))).1).mono ?_
  rintro e w6' ⟨rfl, b6⟩
  replace H := H.still b6
  clear b6
  go_wp2_with fail
  go_ret
  exact ⟨rfl, H.below⟩
end Go.Proofs.Ytbbodgeoenjdkaa.fnExactAreDemands
