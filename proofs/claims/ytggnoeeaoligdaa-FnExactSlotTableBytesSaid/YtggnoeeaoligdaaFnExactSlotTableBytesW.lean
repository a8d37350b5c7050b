/-
  The walk of laws.FnExactSlotTableBytes: at every input it returns true and writes nothing that was there.
-/
import Derived.Test.YtggnoeeaoligdaaRows
import Derived.Test.YtggnoeeaoligdaaP3
import Derived.Test.YtggnoeeaoligdaaSB
import Derived.Test.YtggnoeeaoligdaaSV
import Derived.Test.YtggnoeeaoligdaaOpenSl
import Derived.WalkKit
import Derived.ProofKit
import Derived.OpenShut
import Derived.ShutString
import Derived.ChangeOld
import Derived.Below
import Derived.Lib.SmallJoins
namespace Go.Proofs.Ytggnoeeaoligdaa.fnExactSlotTableBytes
open Go.ChangeShapes Go.WideShapes Go.ChangeAt Go.RowKit Go.Joins
open Go.ChangeMaps (open_string shut_string)
set_option linter.unusedVariables false
set_option maxRecDepth 100000 in set_option maxHeartbeats 4000000 in set_option linter.unnecessarySimpa false in set_option linter.unusedSimpArgs false in
theorem walk (a0 : Option Addr) (len0 cap0 : Nat) (e0 : List Sl) (w : World) (w0 : SlRow w a0 len0 cap0 e0) :
    Calls Try.prog 7 #[.slice a0 len0 cap0] w fun e w' => e = .returned (.bool true) ∧ Below w.heap.size w w' := by
  obtain ⟨hcap0, hmax0, hr0, hwf0⟩ := w0
  clear hwf0
  obtain rfl : e0.length = len0 := hr0.len
  have hm0 : cap0 ≤ 9223372036854775807 := by unfold maxLen at hmax0; omega
  have hsz0 := fun W => szSlots_any a0 e0.length cap0 e0 W rfl (by omega)
  have HSZ0 := Lib.hid hsz0; clear hsz0 hmax0
  by_cases hneg : szL e0 1048576 < 0
  · go_enter Try.func7, Try.ntmps7
    go_wp2_with fail
    refine (HSZ0.out _).mono ?_
    rintro e w1 ⟨rfl, rfl⟩
    generalize szL e0 1048576 = left at hneg ⊢
    go_wp2_with fail
    go_ret
    exact ⟨rfl, Below.refl _ _⟩
  have hbig0 : e0.length ≤ 1048576 := szL_ok (by omega)
  obtain ⟨r0, r1, hF⟩ : ∃ r0 r1, slotTableBytes e0 = (r0, r1) := ⟨_, _, rfl⟩
  have hlen : r0.length ≤ 1048576 := by have h := slotTableBytes_small e0; rw [hF] at h; exact h
  have HF := Lib.hid hF; clear hF
  have H : Hold w w [] := Hold.start
  go_enter Try.func7, Try.ntmps7
  go_wp2_with fail
  refine (HSZ0.out _).mono ?_
  rintro e w1' ⟨rfl, rfl⟩
  clear HSZ0
  generalize szL e0 1048576 = left at hneg ⊢
  go_wp2_with fail
  refine (toSlots_any _ _ _ _ _ (hr0.below H.below) hbig0).mono ?_
  rintro e w2' m2
  obtain ⟨p2, c2, rfl, o2, -, b2⟩ := m2.get
  replace H : Hold w _ ([itsE 38 (Value.slice p2 e0.length c2) (e0)] ++ (([] : List It))) := H.makeE o2 b2
  clear o2 b2 m2
  go_wp2_with fail
  refine (slotBytesS_any _ _ _ _ _ (Hold.rdE_ (E := 38) (t := e0) (ao := p2) (n := e0.length) (cap := c2) (L1 := ([] : List It)) (L2 := ([] : List It)) (by simpa only [List.append_assoc, List.nil_append] using H)) hbig0).mono ?_
  rintro e w3' m3
  rw [HF.out] at m3
  change Makes2 2 _ r0 r1 _ _ at m3
  obtain ⟨p3, c3, rfl, o3, -, b3⟩ := m3.get
  replace H : Hold w _ ([ints 2 (Value.slice p3 r0.length c3) (r0)] ++ ([itsE 38 (Value.slice p2 e0.length c2) (e0)] ++ (([] : List It)))) := H.makeI o3 b3
  clear o3 b3 m3
  go_wp2_with fail
  refine (toSlots_any _ _ _ _ _ (hr0.below H.below) hbig0).mono ?_
  rintro e w4' m4
  obtain ⟨p4, c4, rfl, o4, -, b4⟩ := m4.get
  replace H : Hold w _ ([itsE 38 (Value.slice p4 e0.length c4) (e0)] ++ ([ints 2 (Value.slice p3 r0.length c3) (r0)] ++ ([itsE 38 (Value.slice p2 e0.length c2) (e0)] ++ (([] : List It))))) := H.makeE o4 b4
  clear o4 b4 m4
  go_wp2_with fail
  refine (slotBytesI_any _ _ _ _ _ (Hold.rdE_ (E := 38) (t := e0) (ao := p4) (n := e0.length) (cap := c4) (L1 := ([] : List It)) (L2 := [ints 2 (Value.slice p3 r0.length c3) (r0)] ++ ([itsE 38 (Value.slice p2 e0.length c2) (e0)] ++ (([] : List It)))) (by simpa only [List.append_assoc, List.nil_append] using H)) hbig0).mono ?_
  rintro e w5' m5
  rw [HF.out] at m5
  change Makes2 2 _ r0 r1 _ _ at m5
  obtain ⟨p5, c5, rfl, o5, -, b5⟩ := m5.get
  replace H : Hold w _ ([ints 2 (Value.slice p5 r0.length c5) (r0)] ++ ([itsE 38 (Value.slice p4 e0.length c4) (e0)] ++ ([ints 2 (Value.slice p3 r0.length c3) (r0)] ++ ([itsE 38 (Value.slice p2 e0.length c2) (e0)] ++ (([] : List It)))))) := H.makeI o5 b5
  clear o5 b5 m5
  go_wp2_with fail
  refine (eq_yes _ _ _ _ _ _ _ _ (Hold.rdI_ (E := 2) (xs := r0) (ao := p5) (n := r0.length) (cap := c5) (L1 := ([] : List It)) (L2 := [itsE 38 (Value.slice p4 e0.length c4) (e0)] ++ ([ints 2 (Value.slice p3 r0.length c3) (r0)] ++ ([itsE 38 (Value.slice p2 e0.length c2) (e0)] ++ (([] : List It))))) (by simpa only [List.append_assoc, List.nil_append] using H)) (Hold.rdI_ (E := 2) (xs := r0) (ao := p3) (n := r0.length) (cap := c3) (L1 := [ints 2 (Value.slice p5 r0.length c5) (r0)] ++ ([itsE 38 (Value.slice p4 e0.length c4) (e0)] ++ (([] : List It)))) (L2 := [itsE 38 (Value.slice p2 e0.length c2) (e0)] ++ (([] : List It))) (by simpa only [List.append_assoc, List.nil_append] using H)) (by omega)).mono ?_
  rintro e w6' ⟨rfl, b6⟩
  replace H := H.still b6
  clear b6
  go_wp2_with fail
  refine (toSlots_any _ _ _ _ _ (hr0.below H.below) hbig0).mono ?_
  rintro e w7' m7
  obtain ⟨p7, c7, rfl, o7, -, b7⟩ := m7.get
  replace H : Hold w _ ([itsE 38 (Value.slice p7 e0.length c7) (e0)] ++ ([ints 2 (Value.slice p5 r0.length c5) (r0)] ++ ([itsE 38 (Value.slice p4 e0.length c4) (e0)] ++ ([ints 2 (Value.slice p3 r0.length c3) (r0)] ++ ([itsE 38 (Value.slice p2 e0.length c2) (e0)] ++ (([] : List It))))))) := H.makeE o7 b7
  clear o7 b7 m7
  go_wp2_with fail
  refine (eqSlots_yes _ _ _ _ _ _ _ (Hold.rdE_ (E := 38) (t := e0) (ao := p4) (n := e0.length) (cap := c4) (L1 := [itsE 38 (Value.slice p7 e0.length c7) (e0)] ++ ([ints 2 (Value.slice p5 r0.length c5) (r0)] ++ (([] : List It)))) (L2 := [ints 2 (Value.slice p3 r0.length c3) (r0)] ++ ([itsE 38 (Value.slice p2 e0.length c2) (e0)] ++ (([] : List It)))) (by simpa only [List.append_assoc, List.nil_append] using H)) (Hold.rdE_ (E := 38) (t := e0) (ao := p7) (n := e0.length) (cap := c7) (L1 := ([] : List It)) (L2 := [ints 2 (Value.slice p5 r0.length c5) (r0)] ++ ([itsE 38 (Value.slice p4 e0.length c4) (e0)] ++ ([ints 2 (Value.slice p3 r0.length c3) (r0)] ++ ([itsE 38 (Value.slice p2 e0.length c2) (e0)] ++ (([] : List It)))))) (by simpa only [List.append_assoc, List.nil_append] using H)) (by omega) (OwnE.cap (Hold.getE_ (E := 38) (t := e0) (v := Value.slice p4 e0.length c4) (L1 := [itsE 38 (Value.slice p7 e0.length c7) (e0)] ++ ([ints 2 (Value.slice p5 r0.length c5) (r0)] ++ (([] : List It)))) (L2 := [ints 2 (Value.slice p3 r0.length c3) (r0)] ++ ([itsE 38 (Value.slice p2 e0.length c2) (e0)] ++ (([] : List It)))) (by simpa only [List.append_assoc, List.nil_append] using H))).1 (OwnE.cap (Hold.getE_ (E := 38) (t := e0) (v := Value.slice p7 e0.length c7) (L1 := ([] : List It)) (L2 := [ints 2 (Value.slice p5 r0.length c5) (r0)] ++ ([itsE 38 (Value.slice p4 e0.length c4) (e0)] ++ ([ints 2 (Value.slice p3 r0.length c3) (r0)] ++ ([itsE 38 (Value.slice p2 e0.length c2) (e0)] ++ (([] : List It)))))) (by simpa only [List.append_assoc, List.nil_append] using H))).1).mono ?_
  rintro e w8' ⟨rfl, b8⟩
  replace H := H.still b8
  clear b8
  go_wp2_with fail
  refine (markSlots_any _ _ _ _ _ _ _ rfl (Hold.getE_ (E := 38) (t := e0) (v := Value.slice p4 e0.length c4) (L1 := [itsE 38 (Value.slice p7 e0.length c7) (e0)] ++ ([ints 2 (Value.slice p5 r0.length c5) (r0)] ++ (([] : List It)))) (L2 := [ints 2 (Value.slice p3 r0.length c3) (r0)] ++ ([itsE 38 (Value.slice p2 e0.length c2) (e0)] ++ (([] : List It)))) (by simpa only [List.append_assoc, List.nil_append] using H)) (by omega) (by omega) (by omega)).mono ?_
  rintro e w9' ⟨rfl, o9, g9⟩
  have h9 := Hold.markE_ (L1 := [itsE 38 (Value.slice p7 e0.length c7) (e0)] ++ ([ints 2 (Value.slice p5 r0.length c5) (r0)] ++ (([] : List It)))) (L2 := [ints 2 (Value.slice p3 r0.length c3) (r0)] ++ ([itsE 38 (Value.slice p2 e0.length c2) (e0)] ++ (([] : List It)))) (v := Value.slice p4 e0.length c4) (E := 38) (t := e0) (u := marksS (1) e0.length) (by simpa only [List.append_assoc, List.nil_append] using H) o9 g9
  replace H : Hold w w9' ([itsE 38 (Value.slice p7 e0.length c7) (e0)] ++ ([ints 2 (Value.slice p5 r0.length c5) (r0)] ++ ([itsE 38 (Value.slice p4 e0.length c4) (marksS (1) e0.length)] ++ ([ints 2 (Value.slice p3 r0.length c3) (r0)] ++ ([itsE 38 (Value.slice p2 e0.length c2) (e0)] ++ (([] : List It))))))) := by simpa only [List.append_assoc, List.nil_append] using h9
  clear h9 o9 g9
  go_wp2_with fail
  refine (eq_yes _ _ _ _ _ _ _ _ (Hold.rdI_ (E := 2) (xs := r0) (ao := p5) (n := r0.length) (cap := c5) (L1 := [itsE 38 (Value.slice p7 e0.length c7) (e0)] ++ (([] : List It))) (L2 := [itsE 38 (Value.slice p4 e0.length c4) (marksS (1) e0.length)] ++ ([ints 2 (Value.slice p3 r0.length c3) (r0)] ++ ([itsE 38 (Value.slice p2 e0.length c2) (e0)] ++ (([] : List It))))) (by simpa only [List.append_assoc, List.nil_append] using H)) (Hold.rdI_ (E := 2) (xs := r0) (ao := p3) (n := r0.length) (cap := c3) (L1 := [itsE 38 (Value.slice p7 e0.length c7) (e0)] ++ ([ints 2 (Value.slice p5 r0.length c5) (r0)] ++ ([itsE 38 (Value.slice p4 e0.length c4) (marksS (1) e0.length)] ++ (([] : List It))))) (L2 := [itsE 38 (Value.slice p2 e0.length c2) (e0)] ++ (([] : List It))) (by simpa only [List.append_assoc, List.nil_append] using H)) (by omega)).mono ?_
  rintro e w10' ⟨rfl, b10⟩
  replace H := H.still b10
  clear b10
  go_wp2_with fail
  refine (mark_own _ _ _ _ _ _ _ rfl (Hold.getI_ (E := 2) (xs := r0) (v := Value.slice p5 r0.length c5) (L1 := [itsE 38 (Value.slice p7 e0.length c7) (e0)] ++ (([] : List It))) (L2 := [itsE 38 (Value.slice p4 e0.length c4) (marksS (1) e0.length)] ++ ([ints 2 (Value.slice p3 r0.length c3) (r0)] ++ ([itsE 38 (Value.slice p2 e0.length c2) (e0)] ++ (([] : List It))))) (by simpa only [List.append_assoc, List.nil_append] using H)) (by omega) (by omega) (by omega)).mono ?_
  rintro e w11' ⟨rfl, o11, g11⟩
  have h11 := Hold.markI_ (L1 := [itsE 38 (Value.slice p7 e0.length c7) (e0)] ++ (([] : List It))) (L2 := [itsE 38 (Value.slice p4 e0.length c4) (marksS (1) e0.length)] ++ ([ints 2 (Value.slice p3 r0.length c3) (r0)] ++ ([itsE 38 (Value.slice p2 e0.length c2) (e0)] ++ (([] : List It))))) (v := Value.slice p5 r0.length c5) (E := 2) (xs := r0) (ys := marks (1) r0.length) (by simpa only [List.append_assoc, List.nil_append] using H) o11 g11
  replace H : Hold w w11' ([itsE 38 (Value.slice p7 e0.length c7) (e0)] ++ ([ints 2 (Value.slice p5 r0.length c5) (marks (1) r0.length)] ++ ([itsE 38 (Value.slice p4 e0.length c4) (marksS (1) e0.length)] ++ ([ints 2 (Value.slice p3 r0.length c3) (r0)] ++ ([itsE 38 (Value.slice p2 e0.length c2) (e0)] ++ (([] : List It))))))) := by simpa only [List.append_assoc, List.nil_append] using h11
  clear h11 o11 g11
  go_wp2_with fail
  have hh12 := (Hold.rdI_ (E := 2) (xs := marks (1) r0.length) (ao := p5) (n := r0.length) (cap := c5) (L1 := [itsE 38 (Value.slice p7 e0.length c7) (e0)] ++ (([] : List It))) (L2 := [itsE 38 (Value.slice p4 e0.length c4) (marksS (1) e0.length)] ++ ([ints 2 (Value.slice p3 r0.length c3) (r0)] ++ ([itsE 38 (Value.slice p2 e0.length c2) (e0)] ++ (([] : List It))))) (by simpa only [List.append_assoc, List.nil_append] using H))
  rw [marks_len] at hh12
  refine (held_yes _ _ _ _ _ hh12 (by omega) (by omega) (by omega)).mono ?_
  rintro e w' ⟨rfl, rfl⟩
  clear hh12
  go_wp2_with fail
  refine (toSlots_any _ _ _ _ _ (hr0.below H.below) hbig0).mono ?_
  rintro e w13' m13
  obtain ⟨p13, c13, rfl, o13, -, b13⟩ := m13.get
  replace H : Hold w _ ([itsE 38 (Value.slice p13 e0.length c13) (e0)] ++ ([itsE 38 (Value.slice p7 e0.length c7) (e0)] ++ ([ints 2 (Value.slice p5 r0.length c5) (marks (1) r0.length)] ++ ([itsE 38 (Value.slice p4 e0.length c4) (marksS (1) e0.length)] ++ ([ints 2 (Value.slice p3 r0.length c3) (r0)] ++ ([itsE 38 (Value.slice p2 e0.length c2) (e0)] ++ (([] : List It)))))))) := H.makeE o13 b13
  clear o13 b13 m13
  go_wp2_with fail
  refine (slotBytesI_any _ _ _ _ _ (Hold.rdE_ (E := 38) (t := e0) (ao := p13) (n := e0.length) (cap := c13) (L1 := ([] : List It)) (L2 := [itsE 38 (Value.slice p7 e0.length c7) (e0)] ++ ([ints 2 (Value.slice p5 r0.length c5) (marks (1) r0.length)] ++ ([itsE 38 (Value.slice p4 e0.length c4) (marksS (1) e0.length)] ++ ([ints 2 (Value.slice p3 r0.length c3) (r0)] ++ ([itsE 38 (Value.slice p2 e0.length c2) (e0)] ++ (([] : List It))))))) (by simpa only [List.append_assoc, List.nil_append] using H)) hbig0).mono ?_
  rintro e w14' m14
  rw [HF.out] at m14
  change Makes2 2 _ r0 r1 _ _ at m14
  obtain ⟨p14, c14, rfl, o14, -, b14⟩ := m14.get
  replace H : Hold w _ ([ints 2 (Value.slice p14 r0.length c14) (r0)] ++ ([itsE 38 (Value.slice p13 e0.length c13) (e0)] ++ ([itsE 38 (Value.slice p7 e0.length c7) (e0)] ++ ([ints 2 (Value.slice p5 r0.length c5) (marks (1) r0.length)] ++ ([itsE 38 (Value.slice p4 e0.length c4) (marksS (1) e0.length)] ++ ([ints 2 (Value.slice p3 r0.length c3) (r0)] ++ ([itsE 38 (Value.slice p2 e0.length c2) (e0)] ++ (([] : List It))))))))) := H.makeI o14 b14
  clear o14 b14 m14
  go_wp2_with fail
  refine (eq_yes _ _ _ _ _ _ _ _ (Hold.rdI_ (E := 2) (xs := r0) (ao := p14) (n := r0.length) (cap := c14) (L1 := ([] : List It)) (L2 := [itsE 38 (Value.slice p13 e0.length c13) (e0)] ++ ([itsE 38 (Value.slice p7 e0.length c7) (e0)] ++ ([ints 2 (Value.slice p5 r0.length c5) (marks (1) r0.length)] ++ ([itsE 38 (Value.slice p4 e0.length c4) (marksS (1) e0.length)] ++ ([ints 2 (Value.slice p3 r0.length c3) (r0)] ++ ([itsE 38 (Value.slice p2 e0.length c2) (e0)] ++ (([] : List It)))))))) (by simpa only [List.append_assoc, List.nil_append] using H)) (Hold.rdI_ (E := 2) (xs := r0) (ao := p3) (n := r0.length) (cap := c3) (L1 := [ints 2 (Value.slice p14 r0.length c14) (r0)] ++ ([itsE 38 (Value.slice p13 e0.length c13) (e0)] ++ ([itsE 38 (Value.slice p7 e0.length c7) (e0)] ++ ([ints 2 (Value.slice p5 r0.length c5) (marks (1) r0.length)] ++ ([itsE 38 (Value.slice p4 e0.length c4) (marksS (1) e0.length)] ++ (([] : List It))))))) (L2 := [itsE 38 (Value.slice p2 e0.length c2) (e0)] ++ (([] : List It))) (by simpa only [List.append_assoc, List.nil_append] using H)) (by omega)).mono ?_
  rintro e w15' ⟨rfl, b15⟩
  replace H := H.still b15
  clear b15
  go_wp2_with fail
  have hh16 := (Hold.rdI_ (E := 2) (xs := marks (1) r0.length) (ao := p5) (n := r0.length) (cap := c5) (L1 := [ints 2 (Value.slice p14 r0.length c14) (r0)] ++ ([itsE 38 (Value.slice p13 e0.length c13) (e0)] ++ ([itsE 38 (Value.slice p7 e0.length c7) (e0)] ++ (([] : List It))))) (L2 := [itsE 38 (Value.slice p4 e0.length c4) (marksS (1) e0.length)] ++ ([ints 2 (Value.slice p3 r0.length c3) (r0)] ++ ([itsE 38 (Value.slice p2 e0.length c2) (e0)] ++ (([] : List It))))) (by simpa only [List.append_assoc, List.nil_append] using H))
  rw [marks_len] at hh16
  refine (held_yes _ _ _ _ _ hh16 (by omega) (by omega) (by omega)).mono ?_
  rintro e w' ⟨rfl, rfl⟩
  clear hh16
  go_wp2_with fail
  go_ret
  exact ⟨rfl, H.below⟩
end Go.Proofs.Ytggnoeeaoligdaa.fnExactSlotTableBytes
