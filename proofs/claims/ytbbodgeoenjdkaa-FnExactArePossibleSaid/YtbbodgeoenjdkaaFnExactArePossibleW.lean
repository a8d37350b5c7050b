/-
  The walk of laws.FnExactArePossible: at every input it returns true and writes nothing that was there.
-/
import Derived.Test.YtbbodgeoenjdkaaRows
import Derived.Test.YtbbodgeoenjdkaaPlDL
import Derived.Test.YtbbodgeoenjdkaaPlBL
import Derived.Test.YtbbodgeoenjdkaaPl9
import Derived.Test.YtbbodgeoenjdkaaPlS6
import Derived.Test.YtbbodgeoenjdkaaPlB
import Derived.Test.YtbbodgeoenjdkaaPlD
import Derived.WalkKit
import Derived.ProofKit
import Derived.OpenShut
import Derived.ShutString
import Derived.ChangeOld
import Derived.Below
import Derived.Lib.SmallJoins
namespace Go.Proofs.Ytbbodgeoenjdkaa.fnExactArePossible
open Go.ChangeShapes Go.WideShapes Go.ChangeAt Go.RowKit Go.Joins
open Go.ChangeMaps (open_string shut_string)
set_option linter.unusedVariables false
set_option maxRecDepth 100000 in set_option maxHeartbeats 4000000 in set_option linter.unnecessarySimpa false in set_option linter.unusedSimpArgs false in set_option linter.unusedVariables false in
theorem walk (a0 : Option Addr) (len0 cap0 : Nat) (e0 : List Dm) (a1 : Int) (a2 : Int) (a3 : Option Addr) (len3 cap3 : Nat) (e3 : List Bk) (w : World) (w0 : DmRow w a0 len0 cap0 e0) (w1 : (Lit.int .i64 a1).wf = true) (w2 : (Lit.int .i64 a2).wf = true) (w3 : BkRow w a3 len3 cap3 e3) :
    Calls Try.prog 8 #[.slice a0 len0 cap0, .int .i64 a1, .int .i64 a2, .slice a3 len3 cap3] w fun e w' => e = .returned (.bool true) ∧ Below w.heap.size w w' := by
  obtain ⟨hcap0, hmax0, hr0, hwf0⟩ := w0
  clear hwf0
  obtain rfl : e0.length = len0 := hr0.len
  have hm0 : cap0 ≤ 9223372036854775807 := by unfold maxLen at hmax0; omega
  obtain ⟨hcap3, hmax3, hr3, hwf3⟩ := w3
  clear hwf3
  obtain rfl : e3.length = len3 := hr3.len
  have hm3 : cap3 ≤ 9223372036854775807 := by unfold maxLen at hmax3; omega
  have hq0 : (0 : Int) ≤ 1048576 := by omega
  have hq1 : (1048576 : Int) ≤ 1048576 := by omega
  have HSZ0 := Lib.hid (fun W => szdms_any a0 e0.length cap0 e0 (1048576 : Int) hq0 hq1 W rfl (by omega))
  by_cases hneg0 : szDm e0 (1048576 : Int) < 0
  · go_enter Try.func8, Try.ntmps8
    go_wp2_with fail
    refine (HSZ0.out _).mono ?_
    rintro e w0_ ⟨rfl, rfl⟩
    generalize szDm e0 (1048576 : Int) = left at hneg0 ⊢
    go_wp2_with fail
    go_ret
    exact ⟨rfl, Below.refl _ _⟩
  have hok0 := szDm_ok (t := e0) (m := (1048576 : Int)) (by omega)
  have hbig0 : e0.length ≤ 1048576 := by omega
  have hle0 := szDm_le e0 (m := (1048576 : Int)) hq0
  obtain ⟨left0, hleft0⟩ : ∃ l, szDm e0 (1048576 : Int) = l := ⟨_, rfl⟩
  rw [hleft0] at hneg0 hle0
  have hp0 : 0 ≤ left0 := by omega
  have hp10 : left0 ≤ 1048576 := by omega
  have HSZ3 := Lib.hid (fun W => szbks_any a3 e3.length cap3 e3 left0 hp0 hp10 W rfl (by omega))
  by_cases hneg3 : szBk e3 left0 < 0
  · go_enter Try.func8, Try.ntmps8
    go_wp2_with fail
    refine (HSZ0.out _).mono ?_
    rintro e w0_ ⟨rfl, rfl⟩
    rw [hleft0]
    go_wp2_with fail
    refine (HSZ3.out _).mono ?_
    rintro e w3_ ⟨rfl, rfl⟩
    generalize szBk e3 left0 = left at hneg3 ⊢
    go_wp2_with fail
    go_ret
    exact ⟨rfl, Below.refl _ _⟩
  have hok3 := szBk_ok (t := e3) (m := left0) (by omega)
  have hbig3 : e3.length ≤ 1048576 := by omega
  obtain ⟨r0, hF⟩ : ∃ r0, arePossible e0 a1 a2 e3 = r0 := ⟨_, rfl⟩
  have HF := Lib.hid hF; clear hF
  have hbne : (r0 != r0) = false := bne_self_eq_false _
  have H : Hold w w [] := Hold.start
  go_enter Try.func8, Try.ntmps8
  go_wp2_with fail
  refine (HSZ0.out _).mono ?_
  rintro e w0_ ⟨rfl, rfl⟩
  rw [hleft0]
  go_wp2_with fail
  refine (HSZ3.out _).mono ?_
  rintro e w3_ ⟨rfl, rfl⟩
  generalize szBk e3 left0 = left at hneg3 ⊢
  go_wp2_with fail
  refine (todms_any _ _ _ _ _ (hr0.below H.below) hbig0).mono ?_
  rintro e w1' m1
  obtain ⟨p1, c1, rfl, o1, -, b1⟩ := m1.get
  replace H : Hold w _ ([itsDm 38 (Value.slice p1 e0.length c1) (e0)] ++ (([] : List It))) := H.makeDm o1 b1
  clear o1 b1 m1
  go_wp2_with fail
  refine (tobks_any _ _ _ _ _ (hr3.below H.below) hbig3).mono ?_
  rintro e w2' m2
  obtain ⟨p2, c2, rfl, o2, -, b2⟩ := m2.get
  replace H : Hold w _ ([itsBk 31 (Value.slice p2 e3.length c2) (e3)] ++ ([itsDm 38 (Value.slice p1 e0.length c1) (e0)] ++ (([] : List It)))) := H.makeBk o2 b2
  clear o2 b2 m2
  go_wp2_with fail
  refine (arePossibleS_any _ _ _ _ _ _ _ _ _ _ _ (Hold.rdDm_ (E := 38) (t := e0) (ao := p1) (n := e0.length) (cap := c1) (L1 := [itsBk 31 (Value.slice p2 e3.length c2) (e3)] ++ (([] : List It))) (L2 := ([] : List It)) (by simpa only [List.append_assoc, List.nil_append] using H)) (by omega) (Hold.rdBk_ (E := 31) (t := e3) (ao := p2) (n := e3.length) (cap := c2) (L1 := ([] : List It)) (L2 := [itsDm 38 (Value.slice p1 e0.length c1) (e0)] ++ (([] : List It))) (by simpa only [List.append_assoc, List.nil_append] using H))).mono ?_
  rintro e w3' ⟨rfl, b3⟩
  replace H := H.still b3
  clear b3
  rw [HF.out]
  go_wp2_with fail
  refine (todms_any _ _ _ _ _ (hr0.below H.below) hbig0).mono ?_
  rintro e w4' m4
  obtain ⟨p4, c4, rfl, o4, -, b4⟩ := m4.get
  replace H : Hold w _ ([itsDm 38 (Value.slice p4 e0.length c4) (e0)] ++ ([itsBk 31 (Value.slice p2 e3.length c2) (e3)] ++ ([itsDm 38 (Value.slice p1 e0.length c1) (e0)] ++ (([] : List It))))) := H.makeDm o4 b4
  clear o4 b4 m4
  go_wp2_with fail
  refine (tobks_any _ _ _ _ _ (hr3.below H.below) hbig3).mono ?_
  rintro e w5' m5
  obtain ⟨p5, c5, rfl, o5, -, b5⟩ := m5.get
  replace H : Hold w _ ([itsBk 31 (Value.slice p5 e3.length c5) (e3)] ++ ([itsDm 38 (Value.slice p4 e0.length c4) (e0)] ++ ([itsBk 31 (Value.slice p2 e3.length c2) (e3)] ++ ([itsDm 38 (Value.slice p1 e0.length c1) (e0)] ++ (([] : List It)))))) := H.makeBk o5 b5
  clear o5 b5 m5
  go_wp2_with fail
  refine (arePossibleI_any _ _ _ _ _ _ _ _ _ _ _ (Hold.rdDm_ (E := 38) (t := e0) (ao := p4) (n := e0.length) (cap := c4) (L1 := [itsBk 31 (Value.slice p5 e3.length c5) (e3)] ++ (([] : List It))) (L2 := [itsBk 31 (Value.slice p2 e3.length c2) (e3)] ++ ([itsDm 38 (Value.slice p1 e0.length c1) (e0)] ++ (([] : List It)))) (by simpa only [List.append_assoc, List.nil_append] using H)) (by omega) (Hold.rdBk_ (E := 31) (t := e3) (ao := p5) (n := e3.length) (cap := c5) (L1 := ([] : List It)) (L2 := [itsDm 38 (Value.slice p4 e0.length c4) (e0)] ++ ([itsBk 31 (Value.slice p2 e3.length c2) (e3)] ++ ([itsDm 38 (Value.slice p1 e0.length c1) (e0)] ++ (([] : List It))))) (by simpa only [List.append_assoc, List.nil_append] using H))).mono ?_
  rintro e w6' ⟨rfl, b6⟩
  replace H := H.still b6
  clear b6
  rw [HF.out]
  go_wp2_with fail
  refine (todms_any _ _ _ _ _ (hr0.below H.below) hbig0).mono ?_
  rintro e w7' m7
  obtain ⟨p7, c7, rfl, o7, -, b7⟩ := m7.get
  replace H : Hold w _ ([itsDm 38 (Value.slice p7 e0.length c7) (e0)] ++ ([itsBk 31 (Value.slice p5 e3.length c5) (e3)] ++ ([itsDm 38 (Value.slice p4 e0.length c4) (e0)] ++ ([itsBk 31 (Value.slice p2 e3.length c2) (e3)] ++ ([itsDm 38 (Value.slice p1 e0.length c1) (e0)] ++ (([] : List It))))))) := H.makeDm o7 b7
  clear o7 b7 m7
  go_wp2_with fail
  refine (eqdms_yes _ _ _ _ _ _ _ (Hold.rdDm_ (E := 38) (t := e0) (ao := p4) (n := e0.length) (cap := c4) (L1 := [itsDm 38 (Value.slice p7 e0.length c7) (e0)] ++ ([itsBk 31 (Value.slice p5 e3.length c5) (e3)] ++ (([] : List It)))) (L2 := [itsBk 31 (Value.slice p2 e3.length c2) (e3)] ++ ([itsDm 38 (Value.slice p1 e0.length c1) (e0)] ++ (([] : List It)))) (by simpa only [List.append_assoc, List.nil_append] using H)) (Hold.rdDm_ (E := 38) (t := e0) (ao := p7) (n := e0.length) (cap := c7) (L1 := ([] : List It)) (L2 := [itsBk 31 (Value.slice p5 e3.length c5) (e3)] ++ ([itsDm 38 (Value.slice p4 e0.length c4) (e0)] ++ ([itsBk 31 (Value.slice p2 e3.length c2) (e3)] ++ ([itsDm 38 (Value.slice p1 e0.length c1) (e0)] ++ (([] : List It)))))) (by simpa only [List.append_assoc, List.nil_append] using H)) (by omega) (OwnDm.cap (Hold.getDm_ (E := 38) (t := e0) (v := Value.slice p4 e0.length c4) (L1 := [itsDm 38 (Value.slice p7 e0.length c7) (e0)] ++ ([itsBk 31 (Value.slice p5 e3.length c5) (e3)] ++ (([] : List It)))) (L2 := [itsBk 31 (Value.slice p2 e3.length c2) (e3)] ++ ([itsDm 38 (Value.slice p1 e0.length c1) (e0)] ++ (([] : List It)))) (by simpa only [List.append_assoc, List.nil_append] using H))).1 (OwnDm.cap (Hold.getDm_ (E := 38) (t := e0) (v := Value.slice p7 e0.length c7) (L1 := ([] : List It)) (L2 := [itsBk 31 (Value.slice p5 e3.length c5) (e3)] ++ ([itsDm 38 (Value.slice p4 e0.length c4) (e0)] ++ ([itsBk 31 (Value.slice p2 e3.length c2) (e3)] ++ ([itsDm 38 (Value.slice p1 e0.length c1) (e0)] ++ (([] : List It)))))) (by simpa only [List.append_assoc, List.nil_append] using H))).1).mono ?_
  rintro e w8' ⟨rfl, b8⟩
  replace H := H.still b8
  clear b8
  go_wp2_with fail
  refine (tobks_any _ _ _ _ _ (hr3.below H.below) hbig3).mono ?_
  rintro e w9' m9
  obtain ⟨p9, c9, rfl, o9, -, b9⟩ := m9.get
  replace H : Hold w _ ([itsBk 31 (Value.slice p9 e3.length c9) (e3)] ++ ([itsDm 38 (Value.slice p7 e0.length c7) (e0)] ++ ([itsBk 31 (Value.slice p5 e3.length c5) (e3)] ++ ([itsDm 38 (Value.slice p4 e0.length c4) (e0)] ++ ([itsBk 31 (Value.slice p2 e3.length c2) (e3)] ++ ([itsDm 38 (Value.slice p1 e0.length c1) (e0)] ++ (([] : List It)))))))) := H.makeBk o9 b9
  clear o9 b9 m9
  go_wp2_with fail
  refine (eqbks_yes _ _ _ _ _ _ _ (Hold.rdBk_ (E := 31) (t := e3) (ao := p5) (n := e3.length) (cap := c5) (L1 := [itsBk 31 (Value.slice p9 e3.length c9) (e3)] ++ ([itsDm 38 (Value.slice p7 e0.length c7) (e0)] ++ (([] : List It)))) (L2 := [itsDm 38 (Value.slice p4 e0.length c4) (e0)] ++ ([itsBk 31 (Value.slice p2 e3.length c2) (e3)] ++ ([itsDm 38 (Value.slice p1 e0.length c1) (e0)] ++ (([] : List It))))) (by simpa only [List.append_assoc, List.nil_append] using H)) (Hold.rdBk_ (E := 31) (t := e3) (ao := p9) (n := e3.length) (cap := c9) (L1 := ([] : List It)) (L2 := [itsDm 38 (Value.slice p7 e0.length c7) (e0)] ++ ([itsBk 31 (Value.slice p5 e3.length c5) (e3)] ++ ([itsDm 38 (Value.slice p4 e0.length c4) (e0)] ++ ([itsBk 31 (Value.slice p2 e3.length c2) (e3)] ++ ([itsDm 38 (Value.slice p1 e0.length c1) (e0)] ++ (([] : List It))))))) (by simpa only [List.append_assoc, List.nil_append] using H)) (by omega) (OwnBk.cap (Hold.getBk_ (E := 31) (t := e3) (v := Value.slice p5 e3.length c5) (L1 := [itsBk 31 (Value.slice p9 e3.length c9) (e3)] ++ ([itsDm 38 (Value.slice p7 e0.length c7) (e0)] ++ (([] : List It)))) (L2 := [itsDm 38 (Value.slice p4 e0.length c4) (e0)] ++ ([itsBk 31 (Value.slice p2 e3.length c2) (e3)] ++ ([itsDm 38 (Value.slice p1 e0.length c1) (e0)] ++ (([] : List It))))) (by simpa only [List.append_assoc, List.nil_append] using H))).1 (OwnBk.cap (Hold.getBk_ (E := 31) (t := e3) (v := Value.slice p9 e3.length c9) (L1 := ([] : List It)) (L2 := [itsDm 38 (Value.slice p7 e0.length c7) (e0)] ++ ([itsBk 31 (Value.slice p5 e3.length c5) (e3)] ++ ([itsDm 38 (Value.slice p4 e0.length c4) (e0)] ++ ([itsBk 31 (Value.slice p2 e3.length c2) (e3)] ++ ([itsDm 38 (Value.slice p1 e0.length c1) (e0)] ++ (([] : List It))))))) (by simpa only [List.append_assoc, List.nil_append] using H))).1).mono ?_
  rintro e w10' ⟨rfl, b10⟩
  replace H := H.still b10
  clear b10
  go_wp2_with fail
  go_ret
  exact ⟨rfl, H.below⟩
end Go.Proofs.Ytbbodgeoenjdkaa.fnExactArePossible
