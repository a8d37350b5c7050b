/-
  The walk of laws.FnExactPlanTable: at every input it returns true and writes nothing that was there.
-/
import Derived.Test.YtbbodgeoenjdkaaRows
import Derived.Test.YtbbodgeoenjdkaaPlDL
import Derived.Test.YtbbodgeoenjdkaaPlBL
import Derived.Test.YtbbodgeoenjdkaaTbL
import Derived.Test.YtbbodgeoenjdkaaPl9
import Derived.Test.YtbbodgeoenjdkaaPlS6
import Derived.Test.YtbbodgeoenjdkaaPlB
import Derived.Test.YtbbodgeoenjdkaaPlD
import Derived.WalkKit
import Derived.ProofKit
import Derived.OpenShut
import Derived.ShutString
import Derived.ChangeOld
import Derived.Below
import Derived.Lib.SmallJoins
namespace Go.Proofs.Ytbbodgeoenjdkaa.fnExactPlanTable
open Go.ChangeShapes Go.WideShapes Go.ChangeAt Go.RowKit Go.Joins
open Go.ChangeMaps (open_string shut_string)
set_option linter.unusedVariables false
set_option maxRecDepth 100000 in set_option maxHeartbeats 4000000 in set_option linter.unnecessarySimpa false in set_option linter.unusedSimpArgs false in set_option linter.unusedVariables false in
theorem walk (a0 : Option Addr) (len0 cap0 : Nat) (e0 : List Dm) (a1 : Int) (a2 : Int) (a3 : Option Addr) (len3 cap3 : Nat) (e3 : List Bk) (w : World) (w0 : DmRow w a0 len0 cap0 e0) (w1 : (Lit.int .i64 a1).wf = true) (w2 : (Lit.int .i64 a2).wf = true) (w3 : BkRow w a3 len3 cap3 e3) :
    Calls Try.prog 9 #[.slice a0 len0 cap0, .int .i64 a1, .int .i64 a2, .slice a3 len3 cap3] w fun e w' => e = .returned (.bool true) ∧ Below w.heap.size w w' := by
  obtain ⟨hcap0, hmax0, hr0, hwf0⟩ := w0
  clear hwf0
  obtain rfl : e0.length = len0 := hr0.len
  have hm0 : cap0 ≤ 9223372036854775807 := by unfold maxLen at hmax0; omega
  obtain ⟨hcap3, hmax3, hr3, hwf3⟩ := w3
  clear hwf3
  obtain rfl : e3.length = len3 := hr3.len
  have hm3 : cap3 ≤ 9223372036854775807 := by unfold maxLen at hmax3; omega
  have hq0 : (0 : Int) ≤ 1048576 := by omega
  have hq1 : (1048576 : Int) ≤ 1048576 := by omega
  have HSZ0 := Lib.hid (fun W => szdms_any a0 e0.length cap0 e0 (1048576 : Int) hq0 hq1 W rfl (by omega))
  by_cases hneg0 : szDm e0 (1048576 : Int) < 0
  · go_enter Try.func9, Try.ntmps9
    go_wp2_with fail
    refine (HSZ0.out _).mono ?_
    rintro e w0_ ⟨rfl, rfl⟩
    generalize szDm e0 (1048576 : Int) = left at hneg0 ⊢
    go_wp2_with fail
    go_ret
    exact ⟨rfl, Below.refl _ _⟩
  have hok0 := szDm_ok (t := e0) (m := (1048576 : Int)) (by omega)
  have hbig0 : e0.length ≤ 1048576 := by omega
  have hle0 := szDm_le e0 (m := (1048576 : Int)) hq0
  obtain ⟨left0, hleft0⟩ : ∃ l, szDm e0 (1048576 : Int) = l := ⟨_, rfl⟩
  rw [hleft0] at hneg0 hle0
  have hp0 : 0 ≤ left0 := by omega
  have hp10 : left0 ≤ 1048576 := by omega
  have HSZ3 := Lib.hid (fun W => szbks_any a3 e3.length cap3 e3 left0 hp0 hp10 W rfl (by omega))
  by_cases hneg3 : szBk e3 left0 < 0
  · go_enter Try.func9, Try.ntmps9
    go_wp2_with fail
    refine (HSZ0.out _).mono ?_
    rintro e w0_ ⟨rfl, rfl⟩
    rw [hleft0]
    go_wp2_with fail
    refine (HSZ3.out _).mono ?_
    rintro e w3_ ⟨rfl, rfl⟩
    generalize szBk e3 left0 = left at hneg3 ⊢
    go_wp2_with fail
    go_ret
    exact ⟨rfl, Below.refl _ _⟩
  have hok3 := szBk_ok (t := e3) (m := left0) (by omega)
  have hbig3 : e3.length ≤ 1048576 := by omega
  obtain ⟨r0, r1, hF⟩ : ∃ r0 r1, planTable e0 a1 a2 e3 = (r0, r1) := ⟨_, _, rfl⟩
  have hlen : smallT r0 := by have h := planTable_small e0 a1 a2 e3; rw [hF] at h; exact h
  have HF := Lib.hid hF; clear hF
  have hine1 : (r1 != r1) = false := by simp
  have H : Hold w w [] := Hold.start
  go_enter Try.func9, Try.ntmps9
  go_wp2_with fail
  refine (HSZ0.out _).mono ?_
  rintro e w0_ ⟨rfl, rfl⟩
  rw [hleft0]
  go_wp2_with fail
  refine (HSZ3.out _).mono ?_
  rintro e w3_ ⟨rfl, rfl⟩
  generalize szBk e3 left0 = left at hneg3 ⊢
  go_wp2_with fail
  refine (todms_any _ _ _ _ _ (hr0.below H.below) hbig0).mono ?_
  rintro e w1' m1
  obtain ⟨p1, c1, rfl, o1, -, b1⟩ := m1.get
  replace H : Hold w _ ([itsDm 38 (Value.slice p1 e0.length c1) (e0)] ++ (([] : List It))) := H.makeDm o1 b1
  clear o1 b1 m1
  go_wp2_with fail
  refine (tobks_any _ _ _ _ _ (hr3.below H.below) hbig3).mono ?_
  rintro e w2' m2
  obtain ⟨p2, c2, rfl, o2, -, b2⟩ := m2.get
  replace H : Hold w _ ([itsBk 31 (Value.slice p2 e3.length c2) (e3)] ++ ([itsDm 38 (Value.slice p1 e0.length c1) (e0)] ++ (([] : List It)))) := H.makeBk o2 b2
  clear o2 b2 m2
  go_wp2_with fail
  refine (planTableS_any _ _ _ _ _ _ _ _ _ _ _ (Hold.rdDm_ (E := 38) (t := e0) (ao := p1) (n := e0.length) (cap := c1) (L1 := [itsBk 31 (Value.slice p2 e3.length c2) (e3)] ++ (([] : List It))) (L2 := ([] : List It)) (by simpa only [List.append_assoc, List.nil_append] using H)) (by omega) (Hold.rdBk_ (E := 31) (t := e3) (ao := p2) (n := e3.length) (cap := c2) (L1 := ([] : List It)) (L2 := [itsDm 38 (Value.slice p1 e0.length c1) (e0)] ++ (([] : List It))) (by simpa only [List.append_assoc, List.nil_append] using H))).mono ?_
  rintro e w3' m3
  rw [HF.out] at m3
  change MakesT2 45 2 _ r0 r1 _ _ at m3
  obtain ⟨p3, c3, s3, hs3, rfl, o3, -, b3⟩ := m3.get
  replace H : Hold w _ (tis 45 2 (Value.slice p3 s3.length c3) (s3) ++ ([itsBk 31 (Value.slice p2 e3.length c2) (e3)] ++ ([itsDm 38 (Value.slice p1 e0.length c1) (e0)] ++ (([] : List It))))) := H.makeT (by decide) o3 b3
  clear o3 b3 m3
  go_wp2_with fail
  refine (todms_any _ _ _ _ _ (hr0.below H.below) hbig0).mono ?_
  rintro e w4' m4
  obtain ⟨p4, c4, rfl, o4, -, b4⟩ := m4.get
  replace H : Hold w _ ([itsDm 38 (Value.slice p4 e0.length c4) (e0)] ++ (tis 45 2 (Value.slice p3 s3.length c3) (s3) ++ ([itsBk 31 (Value.slice p2 e3.length c2) (e3)] ++ ([itsDm 38 (Value.slice p1 e0.length c1) (e0)] ++ (([] : List It)))))) := H.makeDm o4 b4
  clear o4 b4 m4
  go_wp2_with fail
  refine (tobks_any _ _ _ _ _ (hr3.below H.below) hbig3).mono ?_
  rintro e w5' m5
  obtain ⟨p5, c5, rfl, o5, -, b5⟩ := m5.get
  replace H : Hold w _ ([itsBk 31 (Value.slice p5 e3.length c5) (e3)] ++ ([itsDm 38 (Value.slice p4 e0.length c4) (e0)] ++ (tis 45 2 (Value.slice p3 s3.length c3) (s3) ++ ([itsBk 31 (Value.slice p2 e3.length c2) (e3)] ++ ([itsDm 38 (Value.slice p1 e0.length c1) (e0)] ++ (([] : List It))))))) := H.makeBk o5 b5
  clear o5 b5 m5
  go_wp2_with fail
  refine (planTableI_any _ _ _ _ _ _ _ _ _ _ _ (Hold.rdDm_ (E := 38) (t := e0) (ao := p4) (n := e0.length) (cap := c4) (L1 := [itsBk 31 (Value.slice p5 e3.length c5) (e3)] ++ (([] : List It))) (L2 := tis 45 2 (Value.slice p3 s3.length c3) (s3) ++ ([itsBk 31 (Value.slice p2 e3.length c2) (e3)] ++ ([itsDm 38 (Value.slice p1 e0.length c1) (e0)] ++ (([] : List It))))) (by simpa only [List.append_assoc, List.nil_append] using H)) (by omega) (Hold.rdBk_ (E := 31) (t := e3) (ao := p5) (n := e3.length) (cap := c5) (L1 := ([] : List It)) (L2 := [itsDm 38 (Value.slice p4 e0.length c4) (e0)] ++ (tis 45 2 (Value.slice p3 s3.length c3) (s3) ++ ([itsBk 31 (Value.slice p2 e3.length c2) (e3)] ++ ([itsDm 38 (Value.slice p1 e0.length c1) (e0)] ++ (([] : List It)))))) (by simpa only [List.append_assoc, List.nil_append] using H))).mono ?_
  rintro e w6' m6
  rw [HF.out] at m6
  change MakesT2 45 2 _ r0 r1 _ _ at m6
  obtain ⟨p6, c6, s6, hs6, rfl, o6, -, b6⟩ := m6.get
  replace H : Hold w _ (tis 45 2 (Value.slice p6 s6.length c6) (s6) ++ ([itsBk 31 (Value.slice p5 e3.length c5) (e3)] ++ ([itsDm 38 (Value.slice p4 e0.length c4) (e0)] ++ (tis 45 2 (Value.slice p3 s3.length c3) (s3) ++ ([itsBk 31 (Value.slice p2 e3.length c2) (e3)] ++ ([itsDm 38 (Value.slice p1 e0.length c1) (e0)] ++ (([] : List It)))))))) := H.makeT (by decide) o6 b6
  clear o6 b6 m6
  go_wp2_with fail
  refine (eqRows_two _ _ _ _ _ _ _ (Hold.rdT_ (E := 45) (EI := 2) (rs := s6) (ao := p6) (n := s6.length) (cap := c6) (L1 := ([] : List It)) (L2 := [itsBk 31 (Value.slice p5 e3.length c5) (e3)] ++ ([itsDm 38 (Value.slice p4 e0.length c4) (e0)] ++ (tis 45 2 (Value.slice p3 s3.length c3) (s3) ++ ([itsBk 31 (Value.slice p2 e3.length c2) (e3)] ++ ([itsDm 38 (Value.slice p1 e0.length c1) (e0)] ++ (([] : List It))))))) (by simpa only [List.append_assoc, List.nil_append] using H)) (Hold.rdT_ (E := 45) (EI := 2) (rs := s3) (ao := p3) (n := s3.length) (cap := c3) (L1 := tis 45 2 (Value.slice p6 s6.length c6) (s6) ++ ([itsBk 31 (Value.slice p5 e3.length c5) (e3)] ++ ([itsDm 38 (Value.slice p4 e0.length c4) (e0)] ++ (([] : List It))))) (L2 := [itsBk 31 (Value.slice p2 e3.length c2) (e3)] ++ ([itsDm 38 (Value.slice p1 e0.length c1) (e0)] ++ (([] : List It)))) (by simpa only [List.append_assoc, List.nil_append] using H)) (hs6.trans hs3.symm) (by rw [hs6]; exact hlen)).mono ?_
  rintro e w7' ⟨rfl, b7⟩
  replace H := H.still b7
  clear b7
  go_wp2_with fail
  refine (todms_any _ _ _ _ _ (hr0.below H.below) hbig0).mono ?_
  rintro e w8' m8
  obtain ⟨p8, c8, rfl, o8, -, b8⟩ := m8.get
  replace H : Hold w _ ([itsDm 38 (Value.slice p8 e0.length c8) (e0)] ++ (tis 45 2 (Value.slice p6 s6.length c6) (s6) ++ ([itsBk 31 (Value.slice p5 e3.length c5) (e3)] ++ ([itsDm 38 (Value.slice p4 e0.length c4) (e0)] ++ (tis 45 2 (Value.slice p3 s3.length c3) (s3) ++ ([itsBk 31 (Value.slice p2 e3.length c2) (e3)] ++ ([itsDm 38 (Value.slice p1 e0.length c1) (e0)] ++ (([] : List It))))))))) := H.makeDm o8 b8
  clear o8 b8 m8
  go_wp2_with fail
  refine (eqdms_yes _ _ _ _ _ _ _ (Hold.rdDm_ (E := 38) (t := e0) (ao := p4) (n := e0.length) (cap := c4) (L1 := [itsDm 38 (Value.slice p8 e0.length c8) (e0)] ++ (tis 45 2 (Value.slice p6 s6.length c6) (s6) ++ ([itsBk 31 (Value.slice p5 e3.length c5) (e3)] ++ (([] : List It))))) (L2 := tis 45 2 (Value.slice p3 s3.length c3) (s3) ++ ([itsBk 31 (Value.slice p2 e3.length c2) (e3)] ++ ([itsDm 38 (Value.slice p1 e0.length c1) (e0)] ++ (([] : List It))))) (by simpa only [List.append_assoc, List.nil_append] using H)) (Hold.rdDm_ (E := 38) (t := e0) (ao := p8) (n := e0.length) (cap := c8) (L1 := ([] : List It)) (L2 := tis 45 2 (Value.slice p6 s6.length c6) (s6) ++ ([itsBk 31 (Value.slice p5 e3.length c5) (e3)] ++ ([itsDm 38 (Value.slice p4 e0.length c4) (e0)] ++ (tis 45 2 (Value.slice p3 s3.length c3) (s3) ++ ([itsBk 31 (Value.slice p2 e3.length c2) (e3)] ++ ([itsDm 38 (Value.slice p1 e0.length c1) (e0)] ++ (([] : List It)))))))) (by simpa only [List.append_assoc, List.nil_append] using H)) (by omega) (OwnDm.cap (Hold.getDm_ (E := 38) (t := e0) (v := Value.slice p4 e0.length c4) (L1 := [itsDm 38 (Value.slice p8 e0.length c8) (e0)] ++ (tis 45 2 (Value.slice p6 s6.length c6) (s6) ++ ([itsBk 31 (Value.slice p5 e3.length c5) (e3)] ++ (([] : List It))))) (L2 := tis 45 2 (Value.slice p3 s3.length c3) (s3) ++ ([itsBk 31 (Value.slice p2 e3.length c2) (e3)] ++ ([itsDm 38 (Value.slice p1 e0.length c1) (e0)] ++ (([] : List It))))) (by simpa only [List.append_assoc, List.nil_append] using H))).1 (OwnDm.cap (Hold.getDm_ (E := 38) (t := e0) (v := Value.slice p8 e0.length c8) (L1 := ([] : List It)) (L2 := tis 45 2 (Value.slice p6 s6.length c6) (s6) ++ ([itsBk 31 (Value.slice p5 e3.length c5) (e3)] ++ ([itsDm 38 (Value.slice p4 e0.length c4) (e0)] ++ (tis 45 2 (Value.slice p3 s3.length c3) (s3) ++ ([itsBk 31 (Value.slice p2 e3.length c2) (e3)] ++ ([itsDm 38 (Value.slice p1 e0.length c1) (e0)] ++ (([] : List It)))))))) (by simpa only [List.append_assoc, List.nil_append] using H))).1).mono ?_
  rintro e w9' ⟨rfl, b9⟩
  replace H := H.still b9
  clear b9
  go_wp2_with fail
  refine (tobks_any _ _ _ _ _ (hr3.below H.below) hbig3).mono ?_
  rintro e w10' m10
  obtain ⟨p10, c10, rfl, o10, -, b10⟩ := m10.get
  replace H : Hold w _ ([itsBk 31 (Value.slice p10 e3.length c10) (e3)] ++ ([itsDm 38 (Value.slice p8 e0.length c8) (e0)] ++ (tis 45 2 (Value.slice p6 s6.length c6) (s6) ++ ([itsBk 31 (Value.slice p5 e3.length c5) (e3)] ++ ([itsDm 38 (Value.slice p4 e0.length c4) (e0)] ++ (tis 45 2 (Value.slice p3 s3.length c3) (s3) ++ ([itsBk 31 (Value.slice p2 e3.length c2) (e3)] ++ ([itsDm 38 (Value.slice p1 e0.length c1) (e0)] ++ (([] : List It)))))))))) := H.makeBk o10 b10
  clear o10 b10 m10
  go_wp2_with fail
  refine (eqbks_yes _ _ _ _ _ _ _ (Hold.rdBk_ (E := 31) (t := e3) (ao := p5) (n := e3.length) (cap := c5) (L1 := [itsBk 31 (Value.slice p10 e3.length c10) (e3)] ++ ([itsDm 38 (Value.slice p8 e0.length c8) (e0)] ++ (tis 45 2 (Value.slice p6 s6.length c6) (s6) ++ (([] : List It))))) (L2 := [itsDm 38 (Value.slice p4 e0.length c4) (e0)] ++ (tis 45 2 (Value.slice p3 s3.length c3) (s3) ++ ([itsBk 31 (Value.slice p2 e3.length c2) (e3)] ++ ([itsDm 38 (Value.slice p1 e0.length c1) (e0)] ++ (([] : List It)))))) (by simpa only [List.append_assoc, List.nil_append] using H)) (Hold.rdBk_ (E := 31) (t := e3) (ao := p10) (n := e3.length) (cap := c10) (L1 := ([] : List It)) (L2 := [itsDm 38 (Value.slice p8 e0.length c8) (e0)] ++ (tis 45 2 (Value.slice p6 s6.length c6) (s6) ++ ([itsBk 31 (Value.slice p5 e3.length c5) (e3)] ++ ([itsDm 38 (Value.slice p4 e0.length c4) (e0)] ++ (tis 45 2 (Value.slice p3 s3.length c3) (s3) ++ ([itsBk 31 (Value.slice p2 e3.length c2) (e3)] ++ ([itsDm 38 (Value.slice p1 e0.length c1) (e0)] ++ (([] : List It))))))))) (by simpa only [List.append_assoc, List.nil_append] using H)) (by omega) (OwnBk.cap (Hold.getBk_ (E := 31) (t := e3) (v := Value.slice p5 e3.length c5) (L1 := [itsBk 31 (Value.slice p10 e3.length c10) (e3)] ++ ([itsDm 38 (Value.slice p8 e0.length c8) (e0)] ++ (tis 45 2 (Value.slice p6 s6.length c6) (s6) ++ (([] : List It))))) (L2 := [itsDm 38 (Value.slice p4 e0.length c4) (e0)] ++ (tis 45 2 (Value.slice p3 s3.length c3) (s3) ++ ([itsBk 31 (Value.slice p2 e3.length c2) (e3)] ++ ([itsDm 38 (Value.slice p1 e0.length c1) (e0)] ++ (([] : List It)))))) (by simpa only [List.append_assoc, List.nil_append] using H))).1 (OwnBk.cap (Hold.getBk_ (E := 31) (t := e3) (v := Value.slice p10 e3.length c10) (L1 := ([] : List It)) (L2 := [itsDm 38 (Value.slice p8 e0.length c8) (e0)] ++ (tis 45 2 (Value.slice p6 s6.length c6) (s6) ++ ([itsBk 31 (Value.slice p5 e3.length c5) (e3)] ++ ([itsDm 38 (Value.slice p4 e0.length c4) (e0)] ++ (tis 45 2 (Value.slice p3 s3.length c3) (s3) ++ ([itsBk 31 (Value.slice p2 e3.length c2) (e3)] ++ ([itsDm 38 (Value.slice p1 e0.length c1) (e0)] ++ (([] : List It))))))))) (by simpa only [List.append_assoc, List.nil_append] using H))).1).mono ?_
  rintro e w11' ⟨rfl, b11⟩
  replace H := H.still b11
  clear b11
  go_wp2_with fail
  refine (markdms_any _ _ _ _ _ _ _ rfl (Hold.getDm_ (E := 38) (t := e0) (v := Value.slice p4 e0.length c4) (L1 := [itsBk 31 (Value.slice p10 e3.length c10) (e3)] ++ ([itsDm 38 (Value.slice p8 e0.length c8) (e0)] ++ (tis 45 2 (Value.slice p6 s6.length c6) (s6) ++ ([itsBk 31 (Value.slice p5 e3.length c5) (e3)] ++ (([] : List It)))))) (L2 := tis 45 2 (Value.slice p3 s3.length c3) (s3) ++ ([itsBk 31 (Value.slice p2 e3.length c2) (e3)] ++ ([itsDm 38 (Value.slice p1 e0.length c1) (e0)] ++ (([] : List It))))) (by simpa only [List.append_assoc, List.nil_append] using H)) (by omega) (by omega) (by omega)).mono ?_
  rintro e w12' ⟨rfl, o12, g12⟩
  have h12 := Hold.markDm_ (L1 := [itsBk 31 (Value.slice p10 e3.length c10) (e3)] ++ ([itsDm 38 (Value.slice p8 e0.length c8) (e0)] ++ (tis 45 2 (Value.slice p6 s6.length c6) (s6) ++ ([itsBk 31 (Value.slice p5 e3.length c5) (e3)] ++ (([] : List It)))))) (L2 := tis 45 2 (Value.slice p3 s3.length c3) (s3) ++ ([itsBk 31 (Value.slice p2 e3.length c2) (e3)] ++ ([itsDm 38 (Value.slice p1 e0.length c1) (e0)] ++ (([] : List It))))) (v := Value.slice p4 e0.length c4) (E := 38) (t := e0) (u := marksDm (1) e0.length) (by simpa only [List.append_assoc, List.nil_append] using H) o12 g12
  replace H : Hold w w12' ([itsBk 31 (Value.slice p10 e3.length c10) (e3)] ++ ([itsDm 38 (Value.slice p8 e0.length c8) (e0)] ++ (tis 45 2 (Value.slice p6 s6.length c6) (s6) ++ ([itsBk 31 (Value.slice p5 e3.length c5) (e3)] ++ ([itsDm 38 (Value.slice p4 e0.length c4) (marksDm (1) e0.length)] ++ (tis 45 2 (Value.slice p3 s3.length c3) (s3) ++ ([itsBk 31 (Value.slice p2 e3.length c2) (e3)] ++ ([itsDm 38 (Value.slice p1 e0.length c1) (e0)] ++ (([] : List It)))))))))) := by simpa only [List.append_assoc, List.nil_append] using h12
  clear h12 o12 g12
  go_wp2_with fail
  refine (markbks_any _ _ _ _ _ _ _ rfl (Hold.getBk_ (E := 31) (t := e3) (v := Value.slice p5 e3.length c5) (L1 := [itsBk 31 (Value.slice p10 e3.length c10) (e3)] ++ ([itsDm 38 (Value.slice p8 e0.length c8) (e0)] ++ (tis 45 2 (Value.slice p6 s6.length c6) (s6) ++ (([] : List It))))) (L2 := [itsDm 38 (Value.slice p4 e0.length c4) (marksDm (1) e0.length)] ++ (tis 45 2 (Value.slice p3 s3.length c3) (s3) ++ ([itsBk 31 (Value.slice p2 e3.length c2) (e3)] ++ ([itsDm 38 (Value.slice p1 e0.length c1) (e0)] ++ (([] : List It)))))) (by simpa only [List.append_assoc, List.nil_append] using H)) (by omega) (by omega) (by omega)).mono ?_
  rintro e w13' ⟨rfl, o13, g13⟩
  have h13 := Hold.markBk_ (L1 := [itsBk 31 (Value.slice p10 e3.length c10) (e3)] ++ ([itsDm 38 (Value.slice p8 e0.length c8) (e0)] ++ (tis 45 2 (Value.slice p6 s6.length c6) (s6) ++ (([] : List It))))) (L2 := [itsDm 38 (Value.slice p4 e0.length c4) (marksDm (1) e0.length)] ++ (tis 45 2 (Value.slice p3 s3.length c3) (s3) ++ ([itsBk 31 (Value.slice p2 e3.length c2) (e3)] ++ ([itsDm 38 (Value.slice p1 e0.length c1) (e0)] ++ (([] : List It)))))) (v := Value.slice p5 e3.length c5) (E := 31) (t := e3) (u := marksBk (1 + ((3 * e0.length : Nat) : Int)) e3.length) (by simpa only [List.append_assoc, List.nil_append] using H) o13 g13
  replace H : Hold w w13' ([itsBk 31 (Value.slice p10 e3.length c10) (e3)] ++ ([itsDm 38 (Value.slice p8 e0.length c8) (e0)] ++ (tis 45 2 (Value.slice p6 s6.length c6) (s6) ++ ([itsBk 31 (Value.slice p5 e3.length c5) (marksBk (1 + ((3 * e0.length : Nat) : Int)) e3.length)] ++ ([itsDm 38 (Value.slice p4 e0.length c4) (marksDm (1) e0.length)] ++ (tis 45 2 (Value.slice p3 s3.length c3) (s3) ++ ([itsBk 31 (Value.slice p2 e3.length c2) (e3)] ++ ([itsDm 38 (Value.slice p1 e0.length c1) (e0)] ++ (([] : List It)))))))))) := by simpa only [List.append_assoc, List.nil_append] using h13
  clear h13 o13 g13
  go_wp2_with fail
  refine (eqRows_two _ _ _ _ _ _ _ (Hold.rdT_ (E := 45) (EI := 2) (rs := s6) (ao := p6) (n := s6.length) (cap := c6) (L1 := [itsBk 31 (Value.slice p10 e3.length c10) (e3)] ++ ([itsDm 38 (Value.slice p8 e0.length c8) (e0)] ++ (([] : List It)))) (L2 := [itsBk 31 (Value.slice p5 e3.length c5) (marksBk (1 + ((3 * e0.length : Nat) : Int)) e3.length)] ++ ([itsDm 38 (Value.slice p4 e0.length c4) (marksDm (1) e0.length)] ++ (tis 45 2 (Value.slice p3 s3.length c3) (s3) ++ ([itsBk 31 (Value.slice p2 e3.length c2) (e3)] ++ ([itsDm 38 (Value.slice p1 e0.length c1) (e0)] ++ (([] : List It))))))) (by simpa only [List.append_assoc, List.nil_append] using H)) (Hold.rdT_ (E := 45) (EI := 2) (rs := s3) (ao := p3) (n := s3.length) (cap := c3) (L1 := [itsBk 31 (Value.slice p10 e3.length c10) (e3)] ++ ([itsDm 38 (Value.slice p8 e0.length c8) (e0)] ++ (tis 45 2 (Value.slice p6 s6.length c6) (s6) ++ ([itsBk 31 (Value.slice p5 e3.length c5) (marksBk (1 + ((3 * e0.length : Nat) : Int)) e3.length)] ++ ([itsDm 38 (Value.slice p4 e0.length c4) (marksDm (1) e0.length)] ++ (([] : List It))))))) (L2 := [itsBk 31 (Value.slice p2 e3.length c2) (e3)] ++ ([itsDm 38 (Value.slice p1 e0.length c1) (e0)] ++ (([] : List It)))) (by simpa only [List.append_assoc, List.nil_append] using H)) (hs6.trans hs3.symm) (by rw [hs6]; exact hlen)).mono ?_
  rintro e w14' ⟨rfl, b14⟩
  replace H := H.still b14
  clear b14
  go_wp2_with fail
  refine (markRows_hold _ _ s6 _ _ _ ([itsBk 31 (Value.slice p10 e3.length c10) (e3)] ++ ([itsDm 38 (Value.slice p8 e0.length c8) (e0)] ++ (([] : List It)))) ([itsBk 31 (Value.slice p5 e3.length c5) (marksBk (1 + ((3 * e0.length : Nat) : Int)) e3.length)] ++ ([itsDm 38 (Value.slice p4 e0.length c4) (marksDm (1) e0.length)] ++ (tis 45 2 (Value.slice p3 s3.length c3) (s3) ++ ([itsBk 31 (Value.slice p2 e3.length c2) (e3)] ++ ([itsDm 38 (Value.slice p1 e0.length c1) (e0)] ++ (([] : List It))))))) (show Hold w _ (([itsBk 31 (Value.slice p10 e3.length c10) (e3)] ++ ([itsDm 38 (Value.slice p8 e0.length c8) (e0)] ++ (([] : List It)))) ++ ((tis 45 2 (Value.slice p6 s6.length c6) (s6)) ++ ([itsBk 31 (Value.slice p5 e3.length c5) (marksBk (1 + ((3 * e0.length : Nat) : Int)) e3.length)] ++ ([itsDm 38 (Value.slice p4 e0.length c4) (marksDm (1) e0.length)] ++ (tis 45 2 (Value.slice p3 s3.length c3) (s3) ++ ([itsBk 31 (Value.slice p2 e3.length c2) (e3)] ++ ([itsDm 38 (Value.slice p1 e0.length c1) (e0)] ++ (([] : List It))))))))) from by simpa only [List.append_assoc, List.nil_append] using H) (by rw [hs6]; exact hlen) (by omega) (by omega)).mono ?_
  rintro e w15' ⟨rfl, h15⟩
  replace H : Hold w w15' ([itsBk 31 (Value.slice p10 e3.length c10) (e3)] ++ ([itsDm 38 (Value.slice p8 e0.length c8) (e0)] ++ (tis 45 2 (Value.slice p6 s6.length c6) (markRs (1) (s6)) ++ ([itsBk 31 (Value.slice p5 e3.length c5) (marksBk (1 + ((3 * e0.length : Nat) : Int)) e3.length)] ++ ([itsDm 38 (Value.slice p4 e0.length c4) (marksDm (1) e0.length)] ++ (tis 45 2 (Value.slice p3 s3.length c3) (s3) ++ ([itsBk 31 (Value.slice p2 e3.length c2) (e3)] ++ ([itsDm 38 (Value.slice p1 e0.length c1) (e0)] ++ (([] : List It)))))))))) := by simpa only [List.append_assoc, List.nil_append] using h15
  clear h15
  go_wp2_with fail
  refine (heldRows_yes _ _ s6 _ _ (by have h := (Hold.rdT_ (E := 45) (EI := 2) (rs := markRs (1) (s6)) (ao := p6) (n := s6.length) (cap := c6) (L1 := [itsBk 31 (Value.slice p10 e3.length c10) (e3)] ++ ([itsDm 38 (Value.slice p8 e0.length c8) (e0)] ++ (([] : List It)))) (L2 := [itsBk 31 (Value.slice p5 e3.length c5) (marksBk (1 + ((3 * e0.length : Nat) : Int)) e3.length)] ++ ([itsDm 38 (Value.slice p4 e0.length c4) (marksDm (1) e0.length)] ++ (tis 45 2 (Value.slice p3 s3.length c3) (s3) ++ ([itsBk 31 (Value.slice p2 e3.length c2) (e3)] ++ ([itsDm 38 (Value.slice p1 e0.length c1) (e0)] ++ (([] : List It))))))) (by simpa only [List.append_assoc, List.nil_append] using H)); rw [markRs_len] at h; exact h) (by rw [hs6]; exact hlen) (by omega) (by omega)).mono ?_
  rintro e w' ⟨rfl, rfl⟩
  go_wp2_with fail
  refine (todms_any _ _ _ _ _ (hr0.below H.below) hbig0).mono ?_
  rintro e w17' m17
  obtain ⟨p17, c17, rfl, o17, -, b17⟩ := m17.get
  replace H : Hold w _ ([itsDm 38 (Value.slice p17 e0.length c17) (e0)] ++ ([itsBk 31 (Value.slice p10 e3.length c10) (e3)] ++ ([itsDm 38 (Value.slice p8 e0.length c8) (e0)] ++ (tis 45 2 (Value.slice p6 s6.length c6) (markRs (1) (s6)) ++ ([itsBk 31 (Value.slice p5 e3.length c5) (marksBk (1 + ((3 * e0.length : Nat) : Int)) e3.length)] ++ ([itsDm 38 (Value.slice p4 e0.length c4) (marksDm (1) e0.length)] ++ (tis 45 2 (Value.slice p3 s3.length c3) (s3) ++ ([itsBk 31 (Value.slice p2 e3.length c2) (e3)] ++ ([itsDm 38 (Value.slice p1 e0.length c1) (e0)] ++ (([] : List It))))))))))) := H.makeDm o17 b17
  clear o17 b17 m17
  go_wp2_with fail
  refine (tobks_any _ _ _ _ _ (hr3.below H.below) hbig3).mono ?_
  rintro e w18' m18
  obtain ⟨p18, c18, rfl, o18, -, b18⟩ := m18.get
  replace H : Hold w _ ([itsBk 31 (Value.slice p18 e3.length c18) (e3)] ++ ([itsDm 38 (Value.slice p17 e0.length c17) (e0)] ++ ([itsBk 31 (Value.slice p10 e3.length c10) (e3)] ++ ([itsDm 38 (Value.slice p8 e0.length c8) (e0)] ++ (tis 45 2 (Value.slice p6 s6.length c6) (markRs (1) (s6)) ++ ([itsBk 31 (Value.slice p5 e3.length c5) (marksBk (1 + ((3 * e0.length : Nat) : Int)) e3.length)] ++ ([itsDm 38 (Value.slice p4 e0.length c4) (marksDm (1) e0.length)] ++ (tis 45 2 (Value.slice p3 s3.length c3) (s3) ++ ([itsBk 31 (Value.slice p2 e3.length c2) (e3)] ++ ([itsDm 38 (Value.slice p1 e0.length c1) (e0)] ++ (([] : List It)))))))))))) := H.makeBk o18 b18
  clear o18 b18 m18
  go_wp2_with fail
  refine (planTableI_any _ _ _ _ _ _ _ _ _ _ _ (Hold.rdDm_ (E := 38) (t := e0) (ao := p17) (n := e0.length) (cap := c17) (L1 := [itsBk 31 (Value.slice p18 e3.length c18) (e3)] ++ (([] : List It))) (L2 := [itsBk 31 (Value.slice p10 e3.length c10) (e3)] ++ ([itsDm 38 (Value.slice p8 e0.length c8) (e0)] ++ (tis 45 2 (Value.slice p6 s6.length c6) (markRs (1) (s6)) ++ ([itsBk 31 (Value.slice p5 e3.length c5) (marksBk (1 + ((3 * e0.length : Nat) : Int)) e3.length)] ++ ([itsDm 38 (Value.slice p4 e0.length c4) (marksDm (1) e0.length)] ++ (tis 45 2 (Value.slice p3 s3.length c3) (s3) ++ ([itsBk 31 (Value.slice p2 e3.length c2) (e3)] ++ ([itsDm 38 (Value.slice p1 e0.length c1) (e0)] ++ (([] : List It)))))))))) (by simpa only [List.append_assoc, List.nil_append] using H)) (by omega) (Hold.rdBk_ (E := 31) (t := e3) (ao := p18) (n := e3.length) (cap := c18) (L1 := ([] : List It)) (L2 := [itsDm 38 (Value.slice p17 e0.length c17) (e0)] ++ ([itsBk 31 (Value.slice p10 e3.length c10) (e3)] ++ ([itsDm 38 (Value.slice p8 e0.length c8) (e0)] ++ (tis 45 2 (Value.slice p6 s6.length c6) (markRs (1) (s6)) ++ ([itsBk 31 (Value.slice p5 e3.length c5) (marksBk (1 + ((3 * e0.length : Nat) : Int)) e3.length)] ++ ([itsDm 38 (Value.slice p4 e0.length c4) (marksDm (1) e0.length)] ++ (tis 45 2 (Value.slice p3 s3.length c3) (s3) ++ ([itsBk 31 (Value.slice p2 e3.length c2) (e3)] ++ ([itsDm 38 (Value.slice p1 e0.length c1) (e0)] ++ (([] : List It))))))))))) (by simpa only [List.append_assoc, List.nil_append] using H))).mono ?_
  rintro e w19' m19
  rw [HF.out] at m19
  change MakesT2 45 2 _ r0 r1 _ _ at m19
  obtain ⟨p19, c19, s19, hs19, rfl, o19, -, b19⟩ := m19.get
  replace H : Hold w _ (tis 45 2 (Value.slice p19 s19.length c19) (s19) ++ ([itsBk 31 (Value.slice p18 e3.length c18) (e3)] ++ ([itsDm 38 (Value.slice p17 e0.length c17) (e0)] ++ ([itsBk 31 (Value.slice p10 e3.length c10) (e3)] ++ ([itsDm 38 (Value.slice p8 e0.length c8) (e0)] ++ (tis 45 2 (Value.slice p6 s6.length c6) (markRs (1) (s6)) ++ ([itsBk 31 (Value.slice p5 e3.length c5) (marksBk (1 + ((3 * e0.length : Nat) : Int)) e3.length)] ++ ([itsDm 38 (Value.slice p4 e0.length c4) (marksDm (1) e0.length)] ++ (tis 45 2 (Value.slice p3 s3.length c3) (s3) ++ ([itsBk 31 (Value.slice p2 e3.length c2) (e3)] ++ ([itsDm 38 (Value.slice p1 e0.length c1) (e0)] ++ (([] : List It))))))))))))) := H.makeT (by decide) o19 b19
  clear o19 b19 m19
  go_wp2_with fail
  refine (eqRows_two _ _ _ _ _ _ _ (Hold.rdT_ (E := 45) (EI := 2) (rs := s19) (ao := p19) (n := s19.length) (cap := c19) (L1 := ([] : List It)) (L2 := [itsBk 31 (Value.slice p18 e3.length c18) (e3)] ++ ([itsDm 38 (Value.slice p17 e0.length c17) (e0)] ++ ([itsBk 31 (Value.slice p10 e3.length c10) (e3)] ++ ([itsDm 38 (Value.slice p8 e0.length c8) (e0)] ++ (tis 45 2 (Value.slice p6 s6.length c6) (markRs (1) (s6)) ++ ([itsBk 31 (Value.slice p5 e3.length c5) (marksBk (1 + ((3 * e0.length : Nat) : Int)) e3.length)] ++ ([itsDm 38 (Value.slice p4 e0.length c4) (marksDm (1) e0.length)] ++ (tis 45 2 (Value.slice p3 s3.length c3) (s3) ++ ([itsBk 31 (Value.slice p2 e3.length c2) (e3)] ++ ([itsDm 38 (Value.slice p1 e0.length c1) (e0)] ++ (([] : List It)))))))))))) (by simpa only [List.append_assoc, List.nil_append] using H)) (Hold.rdT_ (E := 45) (EI := 2) (rs := s3) (ao := p3) (n := s3.length) (cap := c3) (L1 := tis 45 2 (Value.slice p19 s19.length c19) (s19) ++ ([itsBk 31 (Value.slice p18 e3.length c18) (e3)] ++ ([itsDm 38 (Value.slice p17 e0.length c17) (e0)] ++ ([itsBk 31 (Value.slice p10 e3.length c10) (e3)] ++ ([itsDm 38 (Value.slice p8 e0.length c8) (e0)] ++ (tis 45 2 (Value.slice p6 s6.length c6) (markRs (1) (s6)) ++ ([itsBk 31 (Value.slice p5 e3.length c5) (marksBk (1 + ((3 * e0.length : Nat) : Int)) e3.length)] ++ ([itsDm 38 (Value.slice p4 e0.length c4) (marksDm (1) e0.length)] ++ (([] : List It)))))))))) (L2 := [itsBk 31 (Value.slice p2 e3.length c2) (e3)] ++ ([itsDm 38 (Value.slice p1 e0.length c1) (e0)] ++ (([] : List It)))) (by simpa only [List.append_assoc, List.nil_append] using H)) (hs19.trans hs3.symm) (by rw [hs19]; exact hlen)).mono ?_
  rintro e w20' ⟨rfl, b20⟩
  replace H := H.still b20
  clear b20
  go_wp2_with fail
  refine (heldRows_yes _ _ s6 _ _ (by have h := (Hold.rdT_ (E := 45) (EI := 2) (rs := markRs (1) (s6)) (ao := p6) (n := s6.length) (cap := c6) (L1 := tis 45 2 (Value.slice p19 s19.length c19) (s19) ++ ([itsBk 31 (Value.slice p18 e3.length c18) (e3)] ++ ([itsDm 38 (Value.slice p17 e0.length c17) (e0)] ++ ([itsBk 31 (Value.slice p10 e3.length c10) (e3)] ++ ([itsDm 38 (Value.slice p8 e0.length c8) (e0)] ++ (([] : List It))))))) (L2 := [itsBk 31 (Value.slice p5 e3.length c5) (marksBk (1 + ((3 * e0.length : Nat) : Int)) e3.length)] ++ ([itsDm 38 (Value.slice p4 e0.length c4) (marksDm (1) e0.length)] ++ (tis 45 2 (Value.slice p3 s3.length c3) (s3) ++ ([itsBk 31 (Value.slice p2 e3.length c2) (e3)] ++ ([itsDm 38 (Value.slice p1 e0.length c1) (e0)] ++ (([] : List It))))))) (by simpa only [List.append_assoc, List.nil_append] using H)); rw [markRs_len] at h; exact h) (by rw [hs6]; exact hlen) (by omega) (by omega)).mono ?_
  rintro e w' ⟨rfl, rfl⟩
  go_wp2_with fail
  go_ret
  exact ⟨rfl, H.below⟩
end Go.Proofs.Ytbbodgeoenjdkaa.fnExactPlanTable
