/-
  The walk of laws.FnExactIsSlotTable: at every input it returns true and writes nothing that was there.
-/
import Derived.Test.YtggnoeeaoligdaaRows
import Derived.Test.YtggnoeeaoligdaaP3
import Derived.Test.YtggnoeeaoligdaaSL
import Derived.Test.YtggnoeeaoligdaaSV
import Derived.Test.YtggnoeeaoligdaaOpenSl
import Derived.WalkKit
import Derived.ProofKit
import Derived.OpenShut
import Derived.ShutString
import Derived.ChangeOld
import Derived.Below
import Derived.Lib.SmallJoins
namespace Go.Proofs.Ytggnoeeaoligdaa.fnExactIsSlotTable
open Go.ChangeShapes Go.WideShapes Go.ChangeAt Go.RowKit Go.Joins
open Go.ChangeMaps (open_string shut_string)
set_option linter.unusedVariables false
set_option maxRecDepth 100000 in set_option maxHeartbeats 4000000 in set_option linter.unnecessarySimpa false in set_option linter.unusedSimpArgs false in
theorem walk (a0 : Option Addr) (len0 cap0 : Nat) (e0 : List Sl) (w : World) (w0 : SlRow w a0 len0 cap0 e0) :
    Calls Try.prog 6 #[.slice a0 len0 cap0] w fun e w' => e = .returned (.bool true) ∧ Below w.heap.size w w' := by
  obtain ⟨hcap0, hmax0, hr0, hwf0⟩ := w0
  clear hwf0
  obtain rfl : e0.length = len0 := hr0.len
  have hm0 : cap0 ≤ 9223372036854775807 := by unfold maxLen at hmax0; omega
  have hsz0 := fun W => szSlots_any a0 e0.length cap0 e0 W rfl (by omega)
  have HSZ0 := Lib.hid hsz0; clear hsz0 hmax0
  by_cases hneg : szL e0 1048576 < 0
  · go_enter Try.func6, Try.ntmps6
    go_wp2_with fail
    refine (HSZ0.out _).mono ?_
    rintro e w1 ⟨rfl, rfl⟩
    generalize szL e0 1048576 = left at hneg ⊢
    go_wp2_with fail
    go_ret
    exact ⟨rfl, Below.refl _ _⟩
  have hbig0 : e0.length ≤ 1048576 := szL_ok (by omega)
  obtain ⟨r0, hF⟩ : ∃ r0, isSls e0 = r0 := ⟨_, rfl⟩
  have HF := Lib.hid hF; clear hF
  have hbne : (r0 != r0) = false := bne_self_eq_false _
  have H : Hold w w [] := Hold.start
  go_enter Try.func6, Try.ntmps6
  go_wp2_with fail
  refine (HSZ0.out _).mono ?_
  rintro e w1' ⟨rfl, rfl⟩
  clear HSZ0
  generalize szL e0 1048576 = left at hneg ⊢
  go_wp2_with fail
  refine (toSlots_any _ _ _ _ _ (hr0.below H.below) hbig0).mono ?_
  rintro e w2' m2
  obtain ⟨p2, c2, rfl, o2, -, b2⟩ := m2.get
  replace H : Hold w _ ([itsE 38 (Value.slice p2 e0.length c2) (e0)] ++ (([] : List It))) := H.makeE o2 b2
  clear o2 b2 m2
  go_wp2_with fail
  refine (isSlsS_any _ _ _ _ _ (Hold.rdE_ (E := 38) (t := e0) (ao := p2) (n := e0.length) (cap := c2) (L1 := ([] : List It)) (L2 := ([] : List It)) (by simpa only [List.append_assoc, List.nil_append] using H)) hbig0).mono ?_
  rintro e w3' ⟨rfl, b3⟩
  replace H := H.still b3
  clear b3
  rw [HF.out]
  go_wp2_with fail
  refine (toSlots_any _ _ _ _ _ (hr0.below H.below) hbig0).mono ?_
  rintro e w4' m4
  obtain ⟨p4, c4, rfl, o4, -, b4⟩ := m4.get
  replace H : Hold w _ ([itsE 38 (Value.slice p4 e0.length c4) (e0)] ++ ([itsE 38 (Value.slice p2 e0.length c2) (e0)] ++ (([] : List It)))) := H.makeE o4 b4
  clear o4 b4 m4
  go_wp2_with fail
  refine (isSlsI_any _ _ _ _ _ (Hold.rdE_ (E := 38) (t := e0) (ao := p4) (n := e0.length) (cap := c4) (L1 := ([] : List It)) (L2 := [itsE 38 (Value.slice p2 e0.length c2) (e0)] ++ (([] : List It))) (by simpa only [List.append_assoc, List.nil_append] using H)) hbig0).mono ?_
  rintro e w5' ⟨rfl, b5⟩
  replace H := H.still b5
  clear b5
  rw [HF.out]
  go_wp2_with fail
  refine (toSlots_any _ _ _ _ _ (hr0.below H.below) hbig0).mono ?_
  rintro e w6' m6
  obtain ⟨p6, c6, rfl, o6, -, b6⟩ := m6.get
  replace H : Hold w _ ([itsE 38 (Value.slice p6 e0.length c6) (e0)] ++ ([itsE 38 (Value.slice p4 e0.length c4) (e0)] ++ ([itsE 38 (Value.slice p2 e0.length c2) (e0)] ++ (([] : List It))))) := H.makeE o6 b6
  clear o6 b6 m6
  go_wp2_with fail
  refine (eqSlots_yes _ _ _ _ _ _ _ (Hold.rdE_ (E := 38) (t := e0) (ao := p4) (n := e0.length) (cap := c4) (L1 := [itsE 38 (Value.slice p6 e0.length c6) (e0)] ++ (([] : List It))) (L2 := [itsE 38 (Value.slice p2 e0.length c2) (e0)] ++ (([] : List It))) (by simpa only [List.append_assoc, List.nil_append] using H)) (Hold.rdE_ (E := 38) (t := e0) (ao := p6) (n := e0.length) (cap := c6) (L1 := ([] : List It)) (L2 := [itsE 38 (Value.slice p4 e0.length c4) (e0)] ++ ([itsE 38 (Value.slice p2 e0.length c2) (e0)] ++ (([] : List It)))) (by simpa only [List.append_assoc, List.nil_append] using H)) (by omega) (OwnE.cap (Hold.getE_ (E := 38) (t := e0) (v := Value.slice p4 e0.length c4) (L1 := [itsE 38 (Value.slice p6 e0.length c6) (e0)] ++ (([] : List It))) (L2 := [itsE 38 (Value.slice p2 e0.length c2) (e0)] ++ (([] : List It))) (by simpa only [List.append_assoc, List.nil_append] using H))).1 (OwnE.cap (Hold.getE_ (E := 38) (t := e0) (v := Value.slice p6 e0.length c6) (L1 := ([] : List It)) (L2 := [itsE 38 (Value.slice p4 e0.length c4) (e0)] ++ ([itsE 38 (Value.slice p2 e0.length c2) (e0)] ++ (([] : List It)))) (by simpa only [List.append_assoc, List.nil_append] using H))).1).mono ?_
  rintro e w7' ⟨rfl, b7⟩
  replace H := H.still b7
  clear b7
  go_wp2_with fail
  go_ret
  exact ⟨rfl, H.below⟩
end Go.Proofs.Ytggnoeeaoligdaa.fnExactIsSlotTable
