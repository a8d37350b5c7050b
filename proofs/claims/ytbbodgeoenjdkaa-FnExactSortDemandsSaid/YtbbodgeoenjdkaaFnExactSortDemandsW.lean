/-
  The walk of laws.FnExactSortDemands: at every input it returns true and writes nothing that was there.
-/
import Derived.Test.YtbbodgeoenjdkaaRows
import Derived.Test.YtbbodgeoenjdkaaPlDL
import Derived.Test.YtbbodgeoenjdkaaPl1
import Derived.Test.YtbbodgeoenjdkaaSmB
import Derived.Test.YtbbodgeoenjdkaaPlD
import Derived.WalkKit
import Derived.ProofKit
import Derived.OpenShut
import Derived.ShutString
import Derived.ChangeOld
import Derived.Below
import Derived.Lib.SmallJoins
namespace Go.Proofs.Ytbbodgeoenjdkaa.fnExactSortDemands
open Go.ChangeShapes Go.WideShapes Go.ChangeAt Go.RowKit Go.Joins
open Go.ChangeMaps (open_string shut_string)
set_option linter.unusedVariables false
set_option maxRecDepth 100000 in set_option maxHeartbeats 4000000 in set_option linter.unnecessarySimpa false in set_option linter.unusedSimpArgs false in set_option linter.unusedVariables false in
theorem walk (a0 : Option Addr) (len0 cap0 : Nat) (e0 : List Dm) (w : World) (w0 : DmRow w a0 len0 cap0 e0) :
    Calls Try.prog 12 #[.slice a0 len0 cap0] w fun e w' => e = .returned (.bool true) ∧ Below w.heap.size w w' := by
  obtain ⟨hcap0, hmax0, hr0, hwf0⟩ := w0
  clear hwf0
  obtain rfl : e0.length = len0 := hr0.len
  have hm0 : cap0 ≤ 9223372036854775807 := by unfold maxLen at hmax0; omega
  have hq0 : (0 : Int) ≤ 1048576 := by omega
  have hq1 : (1048576 : Int) ≤ 1048576 := by omega
  have HSZ0 := Lib.hid (fun W => szdms_any a0 e0.length cap0 e0 (1048576 : Int) hq0 hq1 W rfl (by omega))
  by_cases hneg0 : szDm e0 (1048576 : Int) < 0
  · go_enter Try.func12, Try.ntmps12
    go_wp2_with fail
    refine (HSZ0.out _).mono ?_
    rintro e w0_ ⟨rfl, rfl⟩
    generalize szDm e0 (1048576 : Int) = left at hneg0 ⊢
    go_wp2_with fail
    go_ret
    exact ⟨rfl, Below.refl _ _⟩
  have hok0 := szDm_ok (t := e0) (m := (1048576 : Int)) (by omega)
  have hbig0 : e0.length ≤ 1048576 := by omega
  obtain ⟨r0, r1, hF⟩ : ∃ r0 r1, sortDemands e0 = (r0, r1) := ⟨_, _, rfl⟩
  have hlen : r0.length ≤ 1048576 := by have h := sortDemands_small e0; rw [hF] at h; exact h
  have HF := Lib.hid hF; clear hF
  have hine1 : (r1 != r1) = false := by simp
  have H : Hold w w [] := Hold.start
  go_enter Try.func12, Try.ntmps12
  go_wp2_with fail
  refine (HSZ0.out _).mono ?_
  rintro e w0_ ⟨rfl, rfl⟩
  generalize szDm e0 (1048576 : Int) = left at hneg0 ⊢
  go_wp2_with fail
  refine (todms_any _ _ _ _ _ (hr0.below H.below) hbig0).mono ?_
  rintro e w1' m1
  obtain ⟨p1, c1, rfl, o1, -, b1⟩ := m1.get
  replace H : Hold w _ ([itsDm 38 (Value.slice p1 e0.length c1) (e0)] ++ (([] : List It))) := H.makeDm o1 b1
  clear o1 b1 m1
  go_wp2_with fail
  refine (sortDemandsS_any _ _ _ _ _ (Hold.rdDm_ (E := 38) (t := e0) (ao := p1) (n := e0.length) (cap := c1) (L1 := ([] : List It)) (L2 := ([] : List It)) (by simpa only [List.append_assoc, List.nil_append] using H)) (by omega)).mono ?_
  rintro e w2' m2
  rw [HF.out] at m2
  change MakesDm2 38 _ r0 r1 _ _ at m2
  obtain ⟨p2, c2, rfl, o2, -, b2⟩ := m2.get
  replace H : Hold w _ ([itsDm 38 (Value.slice p2 r0.length c2) (r0)] ++ ([itsDm 38 (Value.slice p1 e0.length c1) (e0)] ++ (([] : List It)))) := H.makeDm o2 b2
  clear o2 b2 m2
  go_wp2_with fail
  refine (todms_any _ _ _ _ _ (hr0.below H.below) hbig0).mono ?_
  rintro e w3' m3
  obtain ⟨p3, c3, rfl, o3, -, b3⟩ := m3.get
  replace H : Hold w _ ([itsDm 38 (Value.slice p3 e0.length c3) (e0)] ++ ([itsDm 38 (Value.slice p2 r0.length c2) (r0)] ++ ([itsDm 38 (Value.slice p1 e0.length c1) (e0)] ++ (([] : List It))))) := H.makeDm o3 b3
  clear o3 b3 m3
  go_wp2_with fail
  refine (sortDemandsI_any _ _ _ _ _ (Hold.rdDm_ (E := 38) (t := e0) (ao := p3) (n := e0.length) (cap := c3) (L1 := ([] : List It)) (L2 := [itsDm 38 (Value.slice p2 r0.length c2) (r0)] ++ ([itsDm 38 (Value.slice p1 e0.length c1) (e0)] ++ (([] : List It)))) (by simpa only [List.append_assoc, List.nil_append] using H)) (by omega) (OwnDm.formA (Hold.getDm_ (E := 38) (t := e0) (v := Value.slice p3 e0.length c3) (L1 := ([] : List It)) (L2 := [itsDm 38 (Value.slice p2 r0.length c2) (r0)] ++ ([itsDm 38 (Value.slice p1 e0.length c1) (e0)] ++ (([] : List It)))) (by simpa only [List.append_assoc, List.nil_append] using H)))).mono ?_
  rintro e w4' m4
  rw [HF.out] at m4
  change MakesDm2 38 _ r0 r1 _ _ at m4
  obtain ⟨p4, c4, rfl, o4, -, b4⟩ := m4.get
  replace H : Hold w _ ([itsDm 38 (Value.slice p4 r0.length c4) (r0)] ++ ([itsDm 38 (Value.slice p3 e0.length c3) (e0)] ++ ([itsDm 38 (Value.slice p2 r0.length c2) (r0)] ++ ([itsDm 38 (Value.slice p1 e0.length c1) (e0)] ++ (([] : List It)))))) := H.makeDm o4 b4
  clear o4 b4 m4
  go_wp2_with fail
  refine (eqdms_yes _ _ _ _ _ _ _ (Hold.rdDm_ (E := 38) (t := r0) (ao := p4) (n := r0.length) (cap := c4) (L1 := ([] : List It)) (L2 := [itsDm 38 (Value.slice p3 e0.length c3) (e0)] ++ ([itsDm 38 (Value.slice p2 r0.length c2) (r0)] ++ ([itsDm 38 (Value.slice p1 e0.length c1) (e0)] ++ (([] : List It))))) (by simpa only [List.append_assoc, List.nil_append] using H)) (Hold.rdDm_ (E := 38) (t := r0) (ao := p2) (n := r0.length) (cap := c2) (L1 := [itsDm 38 (Value.slice p4 r0.length c4) (r0)] ++ ([itsDm 38 (Value.slice p3 e0.length c3) (e0)] ++ (([] : List It)))) (L2 := [itsDm 38 (Value.slice p1 e0.length c1) (e0)] ++ (([] : List It))) (by simpa only [List.append_assoc, List.nil_append] using H)) (by omega) (OwnDm.cap (Hold.getDm_ (E := 38) (t := r0) (v := Value.slice p4 r0.length c4) (L1 := ([] : List It)) (L2 := [itsDm 38 (Value.slice p3 e0.length c3) (e0)] ++ ([itsDm 38 (Value.slice p2 r0.length c2) (r0)] ++ ([itsDm 38 (Value.slice p1 e0.length c1) (e0)] ++ (([] : List It))))) (by simpa only [List.append_assoc, List.nil_append] using H))).1 (OwnDm.cap (Hold.getDm_ (E := 38) (t := r0) (v := Value.slice p2 r0.length c2) (L1 := [itsDm 38 (Value.slice p4 r0.length c4) (r0)] ++ ([itsDm 38 (Value.slice p3 e0.length c3) (e0)] ++ (([] : List It)))) (L2 := [itsDm 38 (Value.slice p1 e0.length c1) (e0)] ++ (([] : List It))) (by simpa only [List.append_assoc, List.nil_append] using H))).1).mono ?_
  rintro e w5' ⟨rfl, b5⟩
  replace H := H.still b5
  clear b5
  go_wp2_with fail
  refine (todms_any _ _ _ _ _ (hr0.below H.below) hbig0).mono ?_
  rintro e w6' m6
  obtain ⟨p6, c6, rfl, o6, -, b6⟩ := m6.get
  replace H : Hold w _ ([itsDm 38 (Value.slice p6 e0.length c6) (e0)] ++ ([itsDm 38 (Value.slice p4 r0.length c4) (r0)] ++ ([itsDm 38 (Value.slice p3 e0.length c3) (e0)] ++ ([itsDm 38 (Value.slice p2 r0.length c2) (r0)] ++ ([itsDm 38 (Value.slice p1 e0.length c1) (e0)] ++ (([] : List It))))))) := H.makeDm o6 b6
  clear o6 b6 m6
  go_wp2_with fail
  refine (eqdms_yes _ _ _ _ _ _ _ (Hold.rdDm_ (E := 38) (t := e0) (ao := p3) (n := e0.length) (cap := c3) (L1 := [itsDm 38 (Value.slice p6 e0.length c6) (e0)] ++ ([itsDm 38 (Value.slice p4 r0.length c4) (r0)] ++ (([] : List It)))) (L2 := [itsDm 38 (Value.slice p2 r0.length c2) (r0)] ++ ([itsDm 38 (Value.slice p1 e0.length c1) (e0)] ++ (([] : List It)))) (by simpa only [List.append_assoc, List.nil_append] using H)) (Hold.rdDm_ (E := 38) (t := e0) (ao := p6) (n := e0.length) (cap := c6) (L1 := ([] : List It)) (L2 := [itsDm 38 (Value.slice p4 r0.length c4) (r0)] ++ ([itsDm 38 (Value.slice p3 e0.length c3) (e0)] ++ ([itsDm 38 (Value.slice p2 r0.length c2) (r0)] ++ ([itsDm 38 (Value.slice p1 e0.length c1) (e0)] ++ (([] : List It)))))) (by simpa only [List.append_assoc, List.nil_append] using H)) (by omega) (OwnDm.cap (Hold.getDm_ (E := 38) (t := e0) (v := Value.slice p3 e0.length c3) (L1 := [itsDm 38 (Value.slice p6 e0.length c6) (e0)] ++ ([itsDm 38 (Value.slice p4 r0.length c4) (r0)] ++ (([] : List It)))) (L2 := [itsDm 38 (Value.slice p2 r0.length c2) (r0)] ++ ([itsDm 38 (Value.slice p1 e0.length c1) (e0)] ++ (([] : List It)))) (by simpa only [List.append_assoc, List.nil_append] using H))).1 (OwnDm.cap (Hold.getDm_ (E := 38) (t := e0) (v := Value.slice p6 e0.length c6) (L1 := ([] : List It)) (L2 := [itsDm 38 (Value.slice p4 r0.length c4) (r0)] ++ ([itsDm 38 (Value.slice p3 e0.length c3) (e0)] ++ ([itsDm 38 (Value.slice p2 r0.length c2) (r0)] ++ ([itsDm 38 (Value.slice p1 e0.length c1) (e0)] ++ (([] : List It)))))) (by simpa only [List.append_assoc, List.nil_append] using H))).1).mono ?_
  rintro e w7' ⟨rfl, b7⟩
  replace H := H.still b7
  clear b7
  go_wp2_with fail
  refine (markdms_any _ _ _ _ _ _ _ rfl (Hold.getDm_ (E := 38) (t := e0) (v := Value.slice p3 e0.length c3) (L1 := [itsDm 38 (Value.slice p6 e0.length c6) (e0)] ++ ([itsDm 38 (Value.slice p4 r0.length c4) (r0)] ++ (([] : List It)))) (L2 := [itsDm 38 (Value.slice p2 r0.length c2) (r0)] ++ ([itsDm 38 (Value.slice p1 e0.length c1) (e0)] ++ (([] : List It)))) (by simpa only [List.append_assoc, List.nil_append] using H)) (by omega) (by omega) (by omega)).mono ?_
  rintro e w8' ⟨rfl, o8, g8⟩
  have h8 := Hold.markDm_ (L1 := [itsDm 38 (Value.slice p6 e0.length c6) (e0)] ++ ([itsDm 38 (Value.slice p4 r0.length c4) (r0)] ++ (([] : List It)))) (L2 := [itsDm 38 (Value.slice p2 r0.length c2) (r0)] ++ ([itsDm 38 (Value.slice p1 e0.length c1) (e0)] ++ (([] : List It)))) (v := Value.slice p3 e0.length c3) (E := 38) (t := e0) (u := marksDm (1) e0.length) (by simpa only [List.append_assoc, List.nil_append] using H) o8 g8
  replace H : Hold w w8' ([itsDm 38 (Value.slice p6 e0.length c6) (e0)] ++ ([itsDm 38 (Value.slice p4 r0.length c4) (r0)] ++ ([itsDm 38 (Value.slice p3 e0.length c3) (marksDm (1) e0.length)] ++ ([itsDm 38 (Value.slice p2 r0.length c2) (r0)] ++ ([itsDm 38 (Value.slice p1 e0.length c1) (e0)] ++ (([] : List It))))))) := by simpa only [List.append_assoc, List.nil_append] using h8
  clear h8 o8 g8
  go_wp2_with fail
  refine (eqdms_yes _ _ _ _ _ _ _ (Hold.rdDm_ (E := 38) (t := r0) (ao := p4) (n := r0.length) (cap := c4) (L1 := [itsDm 38 (Value.slice p6 e0.length c6) (e0)] ++ (([] : List It))) (L2 := [itsDm 38 (Value.slice p3 e0.length c3) (marksDm (1) e0.length)] ++ ([itsDm 38 (Value.slice p2 r0.length c2) (r0)] ++ ([itsDm 38 (Value.slice p1 e0.length c1) (e0)] ++ (([] : List It))))) (by simpa only [List.append_assoc, List.nil_append] using H)) (Hold.rdDm_ (E := 38) (t := r0) (ao := p2) (n := r0.length) (cap := c2) (L1 := [itsDm 38 (Value.slice p6 e0.length c6) (e0)] ++ ([itsDm 38 (Value.slice p4 r0.length c4) (r0)] ++ ([itsDm 38 (Value.slice p3 e0.length c3) (marksDm (1) e0.length)] ++ (([] : List It))))) (L2 := [itsDm 38 (Value.slice p1 e0.length c1) (e0)] ++ (([] : List It))) (by simpa only [List.append_assoc, List.nil_append] using H)) (by omega) (OwnDm.cap (Hold.getDm_ (E := 38) (t := r0) (v := Value.slice p4 r0.length c4) (L1 := [itsDm 38 (Value.slice p6 e0.length c6) (e0)] ++ (([] : List It))) (L2 := [itsDm 38 (Value.slice p3 e0.length c3) (marksDm (1) e0.length)] ++ ([itsDm 38 (Value.slice p2 r0.length c2) (r0)] ++ ([itsDm 38 (Value.slice p1 e0.length c1) (e0)] ++ (([] : List It))))) (by simpa only [List.append_assoc, List.nil_append] using H))).1 (OwnDm.cap (Hold.getDm_ (E := 38) (t := r0) (v := Value.slice p2 r0.length c2) (L1 := [itsDm 38 (Value.slice p6 e0.length c6) (e0)] ++ ([itsDm 38 (Value.slice p4 r0.length c4) (r0)] ++ ([itsDm 38 (Value.slice p3 e0.length c3) (marksDm (1) e0.length)] ++ (([] : List It))))) (L2 := [itsDm 38 (Value.slice p1 e0.length c1) (e0)] ++ (([] : List It))) (by simpa only [List.append_assoc, List.nil_append] using H))).1).mono ?_
  rintro e w9' ⟨rfl, b9⟩
  replace H := H.still b9
  clear b9
  go_wp2_with fail
  refine (markdms_any _ _ _ _ _ _ _ rfl (Hold.getDm_ (E := 38) (t := r0) (v := Value.slice p4 r0.length c4) (L1 := [itsDm 38 (Value.slice p6 e0.length c6) (e0)] ++ (([] : List It))) (L2 := [itsDm 38 (Value.slice p3 e0.length c3) (marksDm (1) e0.length)] ++ ([itsDm 38 (Value.slice p2 r0.length c2) (r0)] ++ ([itsDm 38 (Value.slice p1 e0.length c1) (e0)] ++ (([] : List It))))) (by simpa only [List.append_assoc, List.nil_append] using H)) (by omega) (by omega) (by omega)).mono ?_
  rintro e w10' ⟨rfl, o10, g10⟩
  have h10 := Hold.markDm_ (L1 := [itsDm 38 (Value.slice p6 e0.length c6) (e0)] ++ (([] : List It))) (L2 := [itsDm 38 (Value.slice p3 e0.length c3) (marksDm (1) e0.length)] ++ ([itsDm 38 (Value.slice p2 r0.length c2) (r0)] ++ ([itsDm 38 (Value.slice p1 e0.length c1) (e0)] ++ (([] : List It))))) (v := Value.slice p4 r0.length c4) (E := 38) (t := r0) (u := marksDm (1) r0.length) (by simpa only [List.append_assoc, List.nil_append] using H) o10 g10
  replace H : Hold w w10' ([itsDm 38 (Value.slice p6 e0.length c6) (e0)] ++ ([itsDm 38 (Value.slice p4 r0.length c4) (marksDm (1) r0.length)] ++ ([itsDm 38 (Value.slice p3 e0.length c3) (marksDm (1) e0.length)] ++ ([itsDm 38 (Value.slice p2 r0.length c2) (r0)] ++ ([itsDm 38 (Value.slice p1 e0.length c1) (e0)] ++ (([] : List It))))))) := by simpa only [List.append_assoc, List.nil_append] using h10
  clear h10 o10 g10
  go_wp2_with fail
  refine (helddms_yes _ _ _ _ _ (by have h := (Hold.rdDm_ (E := 38) (t := marksDm (1) r0.length) (ao := p4) (n := r0.length) (cap := c4) (L1 := [itsDm 38 (Value.slice p6 e0.length c6) (e0)] ++ (([] : List It))) (L2 := [itsDm 38 (Value.slice p3 e0.length c3) (marksDm (1) e0.length)] ++ ([itsDm 38 (Value.slice p2 r0.length c2) (r0)] ++ ([itsDm 38 (Value.slice p1 e0.length c1) (e0)] ++ (([] : List It))))) (by simpa only [List.append_assoc, List.nil_append] using H)); rw [marksDm_len] at h; exact h) (by omega) (by omega) (by omega)).mono ?_
  rintro e w11' ⟨rfl, b11⟩
  replace H := H.still b11
  clear b11
  go_wp2_with fail
  refine (todms_any _ _ _ _ _ (hr0.below H.below) hbig0).mono ?_
  rintro e w12' m12
  obtain ⟨p12, c12, rfl, o12, -, b12⟩ := m12.get
  replace H : Hold w _ ([itsDm 38 (Value.slice p12 e0.length c12) (e0)] ++ ([itsDm 38 (Value.slice p6 e0.length c6) (e0)] ++ ([itsDm 38 (Value.slice p4 r0.length c4) (marksDm (1) r0.length)] ++ ([itsDm 38 (Value.slice p3 e0.length c3) (marksDm (1) e0.length)] ++ ([itsDm 38 (Value.slice p2 r0.length c2) (r0)] ++ ([itsDm 38 (Value.slice p1 e0.length c1) (e0)] ++ (([] : List It)))))))) := H.makeDm o12 b12
  clear o12 b12 m12
  go_wp2_with fail
  refine (sortDemandsI_any _ _ _ _ _ (Hold.rdDm_ (E := 38) (t := e0) (ao := p12) (n := e0.length) (cap := c12) (L1 := ([] : List It)) (L2 := [itsDm 38 (Value.slice p6 e0.length c6) (e0)] ++ ([itsDm 38 (Value.slice p4 r0.length c4) (marksDm (1) r0.length)] ++ ([itsDm 38 (Value.slice p3 e0.length c3) (marksDm (1) e0.length)] ++ ([itsDm 38 (Value.slice p2 r0.length c2) (r0)] ++ ([itsDm 38 (Value.slice p1 e0.length c1) (e0)] ++ (([] : List It))))))) (by simpa only [List.append_assoc, List.nil_append] using H)) (by omega) (OwnDm.formA (Hold.getDm_ (E := 38) (t := e0) (v := Value.slice p12 e0.length c12) (L1 := ([] : List It)) (L2 := [itsDm 38 (Value.slice p6 e0.length c6) (e0)] ++ ([itsDm 38 (Value.slice p4 r0.length c4) (marksDm (1) r0.length)] ++ ([itsDm 38 (Value.slice p3 e0.length c3) (marksDm (1) e0.length)] ++ ([itsDm 38 (Value.slice p2 r0.length c2) (r0)] ++ ([itsDm 38 (Value.slice p1 e0.length c1) (e0)] ++ (([] : List It))))))) (by simpa only [List.append_assoc, List.nil_append] using H)))).mono ?_
  rintro e w13' m13
  rw [HF.out] at m13
  change MakesDm2 38 _ r0 r1 _ _ at m13
  obtain ⟨p13, c13, rfl, o13, -, b13⟩ := m13.get
  replace H : Hold w _ ([itsDm 38 (Value.slice p13 r0.length c13) (r0)] ++ ([itsDm 38 (Value.slice p12 e0.length c12) (e0)] ++ ([itsDm 38 (Value.slice p6 e0.length c6) (e0)] ++ ([itsDm 38 (Value.slice p4 r0.length c4) (marksDm (1) r0.length)] ++ ([itsDm 38 (Value.slice p3 e0.length c3) (marksDm (1) e0.length)] ++ ([itsDm 38 (Value.slice p2 r0.length c2) (r0)] ++ ([itsDm 38 (Value.slice p1 e0.length c1) (e0)] ++ (([] : List It))))))))) := H.makeDm o13 b13
  clear o13 b13 m13
  go_wp2_with fail
  refine (eqdms_yes _ _ _ _ _ _ _ (Hold.rdDm_ (E := 38) (t := r0) (ao := p13) (n := r0.length) (cap := c13) (L1 := ([] : List It)) (L2 := [itsDm 38 (Value.slice p12 e0.length c12) (e0)] ++ ([itsDm 38 (Value.slice p6 e0.length c6) (e0)] ++ ([itsDm 38 (Value.slice p4 r0.length c4) (marksDm (1) r0.length)] ++ ([itsDm 38 (Value.slice p3 e0.length c3) (marksDm (1) e0.length)] ++ ([itsDm 38 (Value.slice p2 r0.length c2) (r0)] ++ ([itsDm 38 (Value.slice p1 e0.length c1) (e0)] ++ (([] : List It)))))))) (by simpa only [List.append_assoc, List.nil_append] using H)) (Hold.rdDm_ (E := 38) (t := r0) (ao := p2) (n := r0.length) (cap := c2) (L1 := [itsDm 38 (Value.slice p13 r0.length c13) (r0)] ++ ([itsDm 38 (Value.slice p12 e0.length c12) (e0)] ++ ([itsDm 38 (Value.slice p6 e0.length c6) (e0)] ++ ([itsDm 38 (Value.slice p4 r0.length c4) (marksDm (1) r0.length)] ++ ([itsDm 38 (Value.slice p3 e0.length c3) (marksDm (1) e0.length)] ++ (([] : List It))))))) (L2 := [itsDm 38 (Value.slice p1 e0.length c1) (e0)] ++ (([] : List It))) (by simpa only [List.append_assoc, List.nil_append] using H)) (by omega) (OwnDm.cap (Hold.getDm_ (E := 38) (t := r0) (v := Value.slice p13 r0.length c13) (L1 := ([] : List It)) (L2 := [itsDm 38 (Value.slice p12 e0.length c12) (e0)] ++ ([itsDm 38 (Value.slice p6 e0.length c6) (e0)] ++ ([itsDm 38 (Value.slice p4 r0.length c4) (marksDm (1) r0.length)] ++ ([itsDm 38 (Value.slice p3 e0.length c3) (marksDm (1) e0.length)] ++ ([itsDm 38 (Value.slice p2 r0.length c2) (r0)] ++ ([itsDm 38 (Value.slice p1 e0.length c1) (e0)] ++ (([] : List It)))))))) (by simpa only [List.append_assoc, List.nil_append] using H))).1 (OwnDm.cap (Hold.getDm_ (E := 38) (t := r0) (v := Value.slice p2 r0.length c2) (L1 := [itsDm 38 (Value.slice p13 r0.length c13) (r0)] ++ ([itsDm 38 (Value.slice p12 e0.length c12) (e0)] ++ ([itsDm 38 (Value.slice p6 e0.length c6) (e0)] ++ ([itsDm 38 (Value.slice p4 r0.length c4) (marksDm (1) r0.length)] ++ ([itsDm 38 (Value.slice p3 e0.length c3) (marksDm (1) e0.length)] ++ (([] : List It))))))) (L2 := [itsDm 38 (Value.slice p1 e0.length c1) (e0)] ++ (([] : List It))) (by simpa only [List.append_assoc, List.nil_append] using H))).1).mono ?_
  rintro e w14' ⟨rfl, b14⟩
  replace H := H.still b14
  clear b14
  go_wp2_with fail
  refine (helddms_yes _ _ _ _ _ (by have h := (Hold.rdDm_ (E := 38) (t := marksDm (1) r0.length) (ao := p4) (n := r0.length) (cap := c4) (L1 := [itsDm 38 (Value.slice p13 r0.length c13) (r0)] ++ ([itsDm 38 (Value.slice p12 e0.length c12) (e0)] ++ ([itsDm 38 (Value.slice p6 e0.length c6) (e0)] ++ (([] : List It))))) (L2 := [itsDm 38 (Value.slice p3 e0.length c3) (marksDm (1) e0.length)] ++ ([itsDm 38 (Value.slice p2 r0.length c2) (r0)] ++ ([itsDm 38 (Value.slice p1 e0.length c1) (e0)] ++ (([] : List It))))) (by simpa only [List.append_assoc, List.nil_append] using H)); rw [marksDm_len] at h; exact h) (by omega) (by omega) (by omega)).mono ?_
  rintro e w15' ⟨rfl, b15⟩
  replace H := H.still b15
  clear b15
  go_wp2_with fail
  go_ret
  exact ⟨rfl, H.below⟩
end Go.Proofs.Ytbbodgeoenjdkaa.fnExactSortDemands
