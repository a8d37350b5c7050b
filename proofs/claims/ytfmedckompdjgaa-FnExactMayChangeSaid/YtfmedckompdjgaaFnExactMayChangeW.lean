/-
  The walk of laws.FnExactMayChange: at every input it returns true and writes nothing that was there.
-/
import Derived.Test.YtfmedckompdjgaaRows
import Derived.Test.YtfmedckompdjgaaP3
import Derived.Test.YtfmedckompdjgaaQ2
import Derived.Test.YtfmedckompdjgaaOpenMd
import Derived.WalkKit
import Derived.ProofKit
import Derived.OpenShut
import Derived.ShutString
import Derived.ChangeOld
import Derived.Below
import Derived.Lib.SmallJoins
namespace Go.Proofs.Ytfmedckompdjgaa.fnExactMayChange
open Go.ChangeShapes Go.WideShapes Go.ChangeAt Go.RowKit Go.Joins
open Go.ChangeMaps (open_string shut_string)
set_option linter.unusedVariables false
set_option maxRecDepth 100000 in set_option maxHeartbeats 4000000 in set_option linter.unnecessarySimpa false in set_option linter.unusedSimpArgs false in
theorem walk (a0 : Option Addr) (len0 cap0 : Nat) (e0 : List Mc) (a1 : Int) (a2 : Int) (w : World) (w0 : MdRow w a0 len0 cap0 e0) (w1 : (Lit.int .i64 a1).wf = true) (w2 : (Lit.int .i64 a2).wf = true) :
    Calls Try.prog 10 #[.slice a0 len0 cap0, .int .i64 a1, .int .i64 a2] w fun e w' => e = .returned (.bool true) ∧ Below w.heap.size w w' := by
  obtain ⟨hcap0, hmax0, hr0⟩ := w0
  obtain rfl : e0.length = len0 := hr0.len
  obtain ⟨t0, ht0⟩ : ∃ t, t = mds e0 := ⟨_, rfl⟩
  have hlt0 : t0.length = e0.length := by rw [ht0, mds_len]
  have hm0 : cap0 ≤ 9223372036854775807 := by unfold maxLen at hmax0; omega
  have hsz0 := fun W (h : RdM W a0 e0.length e0) => szModes_any a0 e0.length cap0 e0 W h (by omega)
  rw [← ht0] at hsz0
  have HSZ0 := Lib.hid hsz0; clear hsz0 hmax0
  rcases mzS_neg t0 with hneg | ⟨hpos, hposU⟩
  · go_enter Try.func10, Try.ntmps10
    go_wp2_with fail
    refine (HSZ0.out _ hr0).mono ?_
    rintro e w1 ⟨rfl, b1⟩
    rw [hneg]
    go_wp2_with fail
    go_ret
    exact ⟨rfl, b1⟩
  obtain ⟨hbig0, htot0, hsmt⟩ := mzS_ok hpos
  have HSM := Lib.hid hsmt
  have hsm0 := small_of ht0.symm hsmt
  clear hsmt
  rw [hlt0] at hbig0
  obtain ⟨r0, hF⟩ : ∃ r0, mayChange t0 a1 a2 = r0 := ⟨_, rfl⟩
  have HF := Lib.hid hF; clear hF
  have HT0 := Lib.hid ht0; have HLT0 := Lib.hid hlt0; clear ht0
  have hbne : (r0 != r0) = false := bne_self_eq_false _
  have H : Hold w w [] := Hold.start
  go_enter Try.func10, Try.ntmps10
  go_wp2_with fail
  refine (HSZ0.out _ hr0).mono ?_
  rintro e w1' ⟨rfl, b1⟩
  replace H := H.still b1
  clear b1 HSZ0
  have hnn : ¬ mzS t0 1048576 < 0 := by omega
  generalize mzS t0 1048576 = left at hnn hpos hposU ⊢
  go_wp2_with fail
  refine (toModes_to HT0.out hr0 H.below hbig0 hsm0).mono ?_
  rintro e w2' m2
  obtain ⟨p2, c2, d2, hm2, rfl, o2, -, b2⟩ := m2.get
  have HM2 := Lib.hid hm2; have HL2 := Lib.hid (len_of hm2); clear hm2
  replace H := H.makeM ne_md o2 b2
  clear o2 b2 m2
  go_wp2_with fail
  refine (mayChangeS_any _ _ _ _ _ _ _ (Hold.rdM (E := 81) (EI := 2) (cs := d2) (ao := p2) (n := d2.length) (cap := c2) (L1 := ([] : List It)) (L2 := ([] : List It)) (by simpa only [List.append_assoc, List.nil_append] using H)) (by rw [HL2.out]; omega) (small_of HM2.out HSM.out)).mono ?_
  rintro e w3' ⟨rfl, b3⟩
  replace H := H.still b3
  clear b3
  rw [HM2.out, HF.out]
  go_wp2_with fail
  refine (toModes_to HT0.out hr0 H.below hbig0 hsm0).mono ?_
  rintro e w4' m4
  obtain ⟨p4, c4, d4, hm4, rfl, o4, -, b4⟩ := m4.get
  have HM4 := Lib.hid hm4; have HL4 := Lib.hid (len_of hm4); clear hm4
  replace H := H.makeM ne_md o4 b4
  clear o4 b4 m4
  go_wp2_with fail
  refine (mayChangeI_any _ _ _ _ _ _ _ (Hold.rdM (E := 81) (EI := 2) (cs := d4) (ao := p4) (n := d4.length) (cap := c4) (L1 := ([] : List It)) (L2 := mis 81 2 (Value.slice p2 d2.length c2) (d2) ++ (([] : List It))) (by simpa only [List.append_assoc, List.nil_append] using H)) (by rw [HL4.out]; omega) (small_of HM4.out HSM.out)).mono ?_
  rintro e w5' ⟨rfl, b5⟩
  replace H := H.still b5
  clear b5
  rw [HM4.out, HF.out]
  go_wp2_with fail
  refine (toModes_to HT0.out hr0 H.below hbig0 hsm0).mono ?_
  rintro e w6' m6
  obtain ⟨p6, c6, d6, hm6, rfl, o6, -, b6⟩ := m6.get
  have HM6 := Lib.hid hm6; have HL6 := Lib.hid (len_of hm6); clear hm6
  replace H := H.makeM ne_md o6 b6
  clear o6 b6 m6
  go_wp2_with fail
  refine (eqModes_two _ _ _ _ _ _ _ (Hold.rdM (E := 81) (EI := 2) (cs := d4) (ao := p4) (n := d4.length) (cap := c4) (L1 := mis 81 2 (Value.slice p6 d6.length c6) (d6) ++ (([] : List It))) (L2 := mis 81 2 (Value.slice p2 d2.length c2) (d2) ++ (([] : List It))) (by simpa only [List.append_assoc, List.nil_append] using H)) (Hold.rdM (E := 81) (EI := 2) (cs := d6) (ao := p6) (n := d6.length) (cap := c6) (L1 := ([] : List It)) (L2 := mis 81 2 (Value.slice p4 d4.length c4) (d4) ++ (mis 81 2 (Value.slice p2 d2.length c2) (d2) ++ (([] : List It)))) (by simpa only [List.append_assoc, List.nil_append] using H)) (HM4.out.trans HM6.out.symm) (by rw [HL4.out]; omega)).mono ?_
  rintro e w7' ⟨rfl, b7⟩
  replace H := H.still b7
  clear b7
  go_wp2_with fail
  go_ret
  exact ⟨rfl, H.below⟩
end Go.Proofs.Ytfmedckompdjgaa.fnExactMayChange
