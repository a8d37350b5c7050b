/-
  The walk of laws.FnExactFindSlot: at every input it returns true and writes nothing that was there.
-/
import Derived.Test.YtggnoeeaoligdaaRows
import Derived.Test.YtggnoeeaoligdaaP3
import Derived.Test.YtggnoeeaoligdaaEigA
import Derived.Test.YtggnoeeaoligdaaSH
import Derived.Test.YtggnoeeaoligdaaSV
import Derived.Test.YtggnoeeaoligdaaOpenSl
import Derived.WalkKit
import Derived.ProofKit
import Derived.OpenShut
import Derived.ShutString
import Derived.ChangeOld
import Derived.Below
import Derived.Lib.SmallJoins
namespace Go.Proofs.Ytggnoeeaoligdaa.fnExactFindSlot
open Go.ChangeShapes Go.WideShapes Go.ChangeAt Go.RowKit Go.Joins
open Go.ChangeMaps (open_string shut_string)
set_option linter.unusedVariables false
set_option maxRecDepth 100000 in set_option maxHeartbeats 4000000 in set_option linter.unnecessarySimpa false in set_option linter.unusedSimpArgs false in
theorem walk (a0 : Option Addr) (len0 cap0 : Nat) (e0 : List Sl) (a1 : Int) (a2 : Int) (a3 : Int) (w : World) (w0 : SlRow w a0 len0 cap0 e0) (w1 : (Lit.int .i64 a1).wf = true) (w2 : (Lit.int .i64 a2).wf = true) (w3 : (Lit.int .i64 a3).wf = true) :
    Calls Try.prog 9 #[.slice a0 len0 cap0, .int .i64 a1, .int .i64 a2, .int .i64 a3] w fun e w' => e = .returned (.bool true) ∧ Below w.heap.size w w' := by
  obtain ⟨hcap0, hmax0, hr0, hwf0⟩ := w0
  clear hwf0
  obtain rfl : e0.length = len0 := hr0.len
  have hm0 : cap0 ≤ 9223372036854775807 := by unfold maxLen at hmax0; omega
  have hsz0 := fun W => szSlots_any a0 e0.length cap0 e0 W rfl (by omega)
  have HSZ0 := Lib.hid hsz0; clear hsz0 hmax0
  have hwfk : wfk a1 a2 a3 := ⟨w1, w2, w3⟩
  clear w1 w2 w3
  by_cases hneg : szL e0 1048576 < 0
  · go_enter Try.func9, Try.ntmps9
    go_wp2_with fail
    refine (HSZ0.out _).mono ?_
    rintro e w1 ⟨rfl, rfl⟩
    generalize szL e0 1048576 = left at hneg ⊢
    go_wp2_with fail
    go_ret
    exact ⟨rfl, Below.refl _ _⟩
  have hbig0 : e0.length ≤ 1048576 := szL_ok (by omega)
  obtain ⟨⟨q0, q1, q2, q3, q4⟩, r1, hF⟩ : ∃ d c, findSlot e0 a1 a2 a3 = (d, c) := ⟨_, _, rfl⟩
  have HF := Lib.hid hF; clear hF
  have n1 : (r1 != r1) = false := bne_self_eq_false _
  have H : Hold w w [] := Hold.start
  go_enter Try.func9, Try.ntmps9
  go_wp2_with fail
  refine (HSZ0.out _).mono ?_
  rintro e w0' ⟨rfl, rfl⟩
  clear HSZ0
  generalize szL e0 1048576 = left at hneg ⊢
  go_wp2_with fail
  refine (toSlots_any _ _ _ _ _ (hr0.below H.below) hbig0).mono ?_
  rintro e w1' m1
  obtain ⟨p1, c1, rfl, o1, -, b1⟩ := m1.get
  replace H : Hold w _ ([itsE 38 (Value.slice p1 e0.length c1) (e0)] ++ (([] : List It))) := H.makeE o1 b1
  clear o1 b1 m1
  go_wp2_with fail
  refine (findSlotS_any _ _ _ _ _ _ _ _ (Hold.rdE_ (E := 38) (t := e0) (ao := p1) (n := e0.length) (cap := c1) (L1 := ([] : List It)) (L2 := ([] : List It)) (by simpa only [List.append_assoc, List.nil_append] using H)) hbig0).mono ?_
  rintro e w2' ⟨rfl, b2⟩
  rw [HF.out]
  dsimp only [dsVal]
  have hx := DescAt.new (T := 36) (n := q0) (a := q1) (z := q2) (u := q3) (c := q4) w2'
  replace H := (H.still b2).still ((Below.refl _ _).alloc (Nat.le_refl _) (.cells #[.int .i64 q0, .int .i64 q1, .int .i64 q2, .int .i64 q3, .bool q4] 36))
  have X := Lib.hid hx; clear hx b2
  go_upto_region 6 with fail
  generalize w2'.heap.size = bx at X ⊢
  generalize w2'.alloc (.cells #[.int .i64 q0, .int .i64 q1, .int .i64 q2, .int .i64 q3, .bool q4] 36) = w3' at H X ⊢
  go_wp2_with fail
  refine (toSlots_any _ _ _ _ _ (hr0.below H.below) hbig0).mono ?_
  rintro e w4' m4
  obtain ⟨p4, c4, rfl, o4, -, b4⟩ := m4.get
  have hx := X.out.below b4 X.out.lt; clear X; have X := Lib.hid hx; clear hx
  replace H : Hold w _ ([itsE 38 (Value.slice p4 e0.length c4) (e0)] ++ ([itsE 38 (Value.slice p1 e0.length c1) (e0)] ++ (([] : List It)))) := H.makeE o4 b4
  clear o4 b4 m4
  go_wp2_with fail
  refine (findSlotI_any _ _ _ _ _ _ _ _ (Hold.rdE_ (E := 38) (t := e0) (ao := p4) (n := e0.length) (cap := c4) (L1 := ([] : List It)) (L2 := [itsE 38 (Value.slice p1 e0.length c1) (e0)] ++ (([] : List It))) (by simpa only [List.append_assoc, List.nil_append] using H)) hbig0 hwfk).mono ?_
  rintro e w5' ⟨rfl, b5⟩
  rw [HF.out]
  dsimp only [dsVal]
  have hx := X.out.below b5 X.out.lt; clear X; have X := Lib.hid hx; clear hx
  replace H := H.still b5
  clear b5
  have e0' := X.out.c0; have e1' := X.out.c1; have e2' := X.out.c2; have e3' := X.out.c3; have e4' := X.out.c4; have hlt := X.out.lt
  replace H := H.still ((Below.refl _ _).alloc (Nat.le_refl _) (.cells #[.int .i64 q0, .int .i64 q1, .int .i64 q2, .int .i64 q3, .bool q4] 36))
  go_wp2_with fail
  clear e0' e1' e2' e3' e4' hlt
  refine (eqDescriptor_any _ _ _ _ _ _).mono ?_
  rintro e w6' ⟨rfl, b6⟩
  replace H := H.still b6
  clear b6
  go_wp2_with fail
  refine (toSlots_any _ _ _ _ _ (hr0.below H.below) hbig0).mono ?_
  rintro e w7' m7
  obtain ⟨p7, c7, rfl, o7, -, b7⟩ := m7.get
  replace H : Hold w _ ([itsE 38 (Value.slice p7 e0.length c7) (e0)] ++ ([itsE 38 (Value.slice p4 e0.length c4) (e0)] ++ ([itsE 38 (Value.slice p1 e0.length c1) (e0)] ++ (([] : List It))))) := H.makeE o7 b7
  clear o7 b7 m7
  go_wp2_with fail
  refine (eqSlots_yes _ _ _ _ _ _ _ (Hold.rdE_ (E := 38) (t := e0) (ao := p4) (n := e0.length) (cap := c4) (L1 := [itsE 38 (Value.slice p7 e0.length c7) (e0)] ++ (([] : List It))) (L2 := [itsE 38 (Value.slice p1 e0.length c1) (e0)] ++ (([] : List It))) (by simpa only [List.append_assoc, List.nil_append] using H)) (Hold.rdE_ (E := 38) (t := e0) (ao := p7) (n := e0.length) (cap := c7) (L1 := ([] : List It)) (L2 := [itsE 38 (Value.slice p4 e0.length c4) (e0)] ++ ([itsE 38 (Value.slice p1 e0.length c1) (e0)] ++ (([] : List It)))) (by simpa only [List.append_assoc, List.nil_append] using H)) (by omega) (OwnE.cap (Hold.getE_ (E := 38) (t := e0) (v := Value.slice p4 e0.length c4) (L1 := [itsE 38 (Value.slice p7 e0.length c7) (e0)] ++ (([] : List It))) (L2 := [itsE 38 (Value.slice p1 e0.length c1) (e0)] ++ (([] : List It))) (by simpa only [List.append_assoc, List.nil_append] using H))).1 (OwnE.cap (Hold.getE_ (E := 38) (t := e0) (v := Value.slice p7 e0.length c7) (L1 := ([] : List It)) (L2 := [itsE 38 (Value.slice p4 e0.length c4) (e0)] ++ ([itsE 38 (Value.slice p1 e0.length c1) (e0)] ++ (([] : List It)))) (by simpa only [List.append_assoc, List.nil_append] using H))).1).mono ?_
  rintro e w8' ⟨rfl, b8⟩
  replace H := H.still b8
  clear b8
  go_wp2_with fail
  go_ret
  exact ⟨rfl, H.below⟩
end Go.Proofs.Ytggnoeeaoligdaa.fnExactFindSlot
