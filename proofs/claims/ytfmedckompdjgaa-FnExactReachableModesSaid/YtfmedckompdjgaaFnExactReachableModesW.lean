/-
  The walk of laws.FnExactReachableModes: at every input it returns true and writes nothing that was there.
-/
import Derived.Test.YtfmedckompdjgaaRows
import Derived.Test.YtfmedckompdjgaaP3
import Derived.Test.YtfmedckompdjgaaPT
import Derived.Test.YtfmedckompdjgaaRE
import Derived.Test.YtfmedckompdjgaaOpenMd
import Derived.WalkKit
import Derived.ProofKit
import Derived.OpenShut
import Derived.ShutString
import Derived.ChangeOld
import Derived.Below
import Derived.Lib.SmallJoins
namespace Go.Proofs.Ytfmedckompdjgaa.fnExactReachableModes
open Go.ChangeShapes Go.WideShapes Go.ChangeAt Go.RowKit Go.Joins
open Go.ChangeMaps (open_string shut_string)
set_option linter.unusedVariables false
set_option maxRecDepth 100000 in set_option maxHeartbeats 4000000 in set_option linter.unnecessarySimpa false in set_option linter.unusedSimpArgs false in
theorem walk (a0 : Option Addr) (len0 cap0 : Nat) (e0 : List Mc) (a1 : Int) (w : World) (w0 : MdRow w a0 len0 cap0 e0) (w1 : (Lit.int .i64 a1).wf = true) :
    Calls Try.prog 11 #[.slice a0 len0 cap0, .int .i64 a1] w fun e w' => e = .returned (.bool true) ∧ Below w.heap.size w w' := by
  obtain ⟨hcap0, hmax0, hr0⟩ := w0
  obtain rfl : e0.length = len0 := hr0.len
  obtain ⟨t0, ht0⟩ : ∃ t, t = mds e0 := ⟨_, rfl⟩
  have hlt0 : t0.length = e0.length := by rw [ht0, mds_len]
  have hm0 : cap0 ≤ 9223372036854775807 := by unfold maxLen at hmax0; omega
  have hsz0 := fun W (h : RdM W a0 e0.length e0) => szModes_any a0 e0.length cap0 e0 W h (by omega)
  rw [← ht0] at hsz0
  have HSZ0 := Lib.hid hsz0; clear hsz0 hmax0
  rcases mzS_neg t0 with hneg | ⟨hpos, hposU⟩
  · go_enter Try.func11, Try.ntmps11
    go_wp2_with fail
    refine (HSZ0.out _ hr0).mono ?_
    rintro e w1 ⟨rfl, b1⟩
    rw [hneg]
    go_wp2_with fail
    go_ret
    exact ⟨rfl, b1⟩
  obtain ⟨hbig0, htot0, hsmt⟩ := mzS_ok hpos
  have HSM := Lib.hid hsmt
  have hsm0 := small_of ht0.symm hsmt
  clear hsmt
  rw [hlt0] at hbig0
  obtain ⟨r0, r1, hF⟩ : ∃ r0 r1, reachableModes t0 a1 = (r0, r1) := ⟨_, _, rfl⟩
  have hlen : r0.length ≤ 1048576 := by have h := reachable_len t0 a1; rw [hF] at h; exact h
  have HF := Lib.hid hF; clear hF
  have HT0 := Lib.hid ht0; have HLT0 := Lib.hid hlt0; clear ht0
  have H : Hold w w [] := Hold.start
  go_enter Try.func11, Try.ntmps11
  go_wp2_with fail
  refine (HSZ0.out _ hr0).mono ?_
  rintro e w1' ⟨rfl, b1⟩
  replace H := H.still b1
  clear b1 HSZ0
  have hnn : ¬ mzS t0 1048576 < 0 := by omega
  generalize mzS t0 1048576 = left at hnn hpos hposU ⊢
  go_wp2_with fail
  refine (toModes_to HT0.out hr0 H.below hbig0 hsm0).mono ?_
  rintro e w2' m2
  obtain ⟨p2, c2, d2, hm2, rfl, o2, -, b2⟩ := m2.get
  have HM2 := Lib.hid hm2; have HL2 := Lib.hid (len_of hm2); clear hm2
  replace H := H.makeM ne_md o2 b2
  clear o2 b2 m2
  go_wp2_with fail
  refine (reachS_any _ _ _ _ _ _ (Hold.rdM (E := 81) (EI := 2) (cs := d2) (ao := p2) (n := d2.length) (cap := c2) (L1 := ([] : List It)) (L2 := ([] : List It)) (by simpa only [List.append_assoc, List.nil_append] using H)) (by rw [HL2.out]; omega) (small_of HM2.out HSM.out)).mono ?_
  rintro e w3' m3
  rw [HM2.out, HF.out] at m3
  change Makes2 2 _ r0 r1 _ _ at m3
  obtain ⟨p3, c3, rfl, o3, -, b3⟩ := m3.get
  replace H : Hold w _ ([ints 2 (Value.slice p3 r0.length c3) (r0)] ++ (mis 81 2 (Value.slice p2 d2.length c2) (d2) ++ (([] : List It)))) := H.makeI o3 b3
  clear o3 b3 m3
  go_wp2_with fail
  refine (toModes_to HT0.out hr0 H.below hbig0 hsm0).mono ?_
  rintro e w4' m4
  obtain ⟨p4, c4, d4, hm4, rfl, o4, -, b4⟩ := m4.get
  have HM4 := Lib.hid hm4; have HL4 := Lib.hid (len_of hm4); clear hm4
  replace H := H.makeM ne_md o4 b4
  clear o4 b4 m4
  go_wp2_with fail
  refine (reachI_any _ _ _ _ _ _ (Hold.rdM (E := 81) (EI := 2) (cs := d4) (ao := p4) (n := d4.length) (cap := c4) (L1 := ([] : List It)) (L2 := [ints 2 (Value.slice p3 r0.length c3) (r0)] ++ (mis 81 2 (Value.slice p2 d2.length c2) (d2) ++ (([] : List It)))) (by simpa only [List.append_assoc, List.nil_append] using H)) (by rw [HL4.out]; omega) (small_of HM4.out HSM.out)).mono ?_
  rintro e w5' m5
  rw [HM4.out, HF.out] at m5
  change Makes2 2 _ r0 r1 _ _ at m5
  obtain ⟨p5, c5, rfl, o5, -, b5⟩ := m5.get
  replace H : Hold w _ ([ints 2 (Value.slice p5 r0.length c5) (r0)] ++ (mis 81 2 (Value.slice p4 d4.length c4) (d4) ++ ([ints 2 (Value.slice p3 r0.length c3) (r0)] ++ (mis 81 2 (Value.slice p2 d2.length c2) (d2) ++ (([] : List It)))))) := H.makeI o5 b5
  clear o5 b5 m5
  go_wp2_with fail
  refine (eq_yes _ _ _ _ _ _ _ _ (Hold.rdI_ (E := 2) (xs := r0) (ao := p5) (n := r0.length) (cap := c5) (L1 := ([] : List It)) (L2 := mis 81 2 (Value.slice p4 d4.length c4) (d4) ++ ([ints 2 (Value.slice p3 r0.length c3) (r0)] ++ (mis 81 2 (Value.slice p2 d2.length c2) (d2) ++ (([] : List It))))) (by simpa only [List.append_assoc, List.nil_append] using H)) (Hold.rdI_ (E := 2) (xs := r0) (ao := p3) (n := r0.length) (cap := c3) (L1 := [ints 2 (Value.slice p5 r0.length c5) (r0)] ++ (mis 81 2 (Value.slice p4 d4.length c4) (d4) ++ (([] : List It)))) (L2 := mis 81 2 (Value.slice p2 d2.length c2) (d2) ++ (([] : List It))) (by simpa only [List.append_assoc, List.nil_append] using H)) (by omega)).mono ?_
  rintro e w6' ⟨rfl, b6⟩
  replace H := H.still b6
  clear b6
  go_wp2_with fail
  refine (toModes_to HT0.out hr0 H.below hbig0 hsm0).mono ?_
  rintro e w7' m7
  obtain ⟨p7, c7, d7, hm7, rfl, o7, -, b7⟩ := m7.get
  have HM7 := Lib.hid hm7; have HL7 := Lib.hid (len_of hm7); clear hm7
  replace H := H.makeM ne_md o7 b7
  clear o7 b7 m7
  go_wp2_with fail
  refine (eqModes_two _ _ _ _ _ _ _ (Hold.rdM (E := 81) (EI := 2) (cs := d4) (ao := p4) (n := d4.length) (cap := c4) (L1 := mis 81 2 (Value.slice p7 d7.length c7) (d7) ++ ([ints 2 (Value.slice p5 r0.length c5) (r0)] ++ (([] : List It)))) (L2 := [ints 2 (Value.slice p3 r0.length c3) (r0)] ++ (mis 81 2 (Value.slice p2 d2.length c2) (d2) ++ (([] : List It)))) (by simpa only [List.append_assoc, List.nil_append] using H)) (Hold.rdM (E := 81) (EI := 2) (cs := d7) (ao := p7) (n := d7.length) (cap := c7) (L1 := ([] : List It)) (L2 := [ints 2 (Value.slice p5 r0.length c5) (r0)] ++ (mis 81 2 (Value.slice p4 d4.length c4) (d4) ++ ([ints 2 (Value.slice p3 r0.length c3) (r0)] ++ (mis 81 2 (Value.slice p2 d2.length c2) (d2) ++ (([] : List It)))))) (by simpa only [List.append_assoc, List.nil_append] using H)) (HM4.out.trans HM7.out.symm) (by rw [HL4.out]; omega)).mono ?_
  rintro e w8' ⟨rfl, b8⟩
  replace H := H.still b8
  clear b8
  go_wp2_with fail
  refine (markModes_any _ _ _ d4 (mis 81 2 (Value.slice p7 d7.length c7) (d7) ++ ([ints 2 (Value.slice p5 r0.length c5) (r0)] ++ (([] : List It)))) ([ints 2 (Value.slice p3 r0.length c3) (r0)] ++ (mis 81 2 (Value.slice p2 d2.length c2) (d2) ++ (([] : List It)))) 1 _ _ rfl (by simpa only [List.append_assoc, List.nil_append] using H) (by rw [HM4.out]; omega) (by rw [HL4.out]; omega) (by omega)).mono ?_
  rintro e w9' ⟨rfl, h9⟩
  replace H : Hold w w9' (mis 81 2 (Value.slice p7 d7.length c7) (d7) ++ ([ints 2 (Value.slice p5 r0.length c5) (r0)] ++ (mis 81 2 (Value.slice p4 d4.length c4) (markMs ((1 : Nat) : Int) d4) ++ ([ints 2 (Value.slice p3 r0.length c3) (r0)] ++ (mis 81 2 (Value.slice p2 d2.length c2) (d2) ++ (([] : List It))))))) := by simpa only [List.append_assoc, List.nil_append] using h9
  clear h9
  rw [HM4.out]
  go_wp2_with fail
  refine (eq_yes _ _ _ _ _ _ _ _ (Hold.rdI_ (E := 2) (xs := r0) (ao := p5) (n := r0.length) (cap := c5) (L1 := mis 81 2 (Value.slice p7 d7.length c7) (d7) ++ (([] : List It))) (L2 := mis 81 2 (Value.slice p4 d4.length c4) (markMs ((1 : Nat) : Int) d4) ++ ([ints 2 (Value.slice p3 r0.length c3) (r0)] ++ (mis 81 2 (Value.slice p2 d2.length c2) (d2) ++ (([] : List It))))) (by simpa only [List.append_assoc, List.nil_append] using H)) (Hold.rdI_ (E := 2) (xs := r0) (ao := p3) (n := r0.length) (cap := c3) (L1 := mis 81 2 (Value.slice p7 d7.length c7) (d7) ++ ([ints 2 (Value.slice p5 r0.length c5) (r0)] ++ (mis 81 2 (Value.slice p4 d4.length c4) (markMs ((1 : Nat) : Int) d4) ++ (([] : List It))))) (L2 := mis 81 2 (Value.slice p2 d2.length c2) (d2) ++ (([] : List It))) (by simpa only [List.append_assoc, List.nil_append] using H)) (by omega)).mono ?_
  rintro e w10' ⟨rfl, b10⟩
  replace H := H.still b10
  clear b10
  go_wp2_with fail
  refine (mark_own _ _ _ _ _ _ _ rfl (Hold.getI_ (E := 2) (xs := r0) (v := Value.slice p5 r0.length c5) (L1 := mis 81 2 (Value.slice p7 d7.length c7) (d7) ++ (([] : List It))) (L2 := mis 81 2 (Value.slice p4 d4.length c4) (markMs ((1 : Nat) : Int) d4) ++ ([ints 2 (Value.slice p3 r0.length c3) (r0)] ++ (mis 81 2 (Value.slice p2 d2.length c2) (d2) ++ (([] : List It))))) (by simpa only [List.append_assoc, List.nil_append] using H)) (by omega) (by omega) (by omega)).mono ?_
  rintro e w11' ⟨rfl, o11, g11⟩
  have h11 := Hold.markI_ (L1 := mis 81 2 (Value.slice p7 d7.length c7) (d7) ++ (([] : List It))) (L2 := mis 81 2 (Value.slice p4 d4.length c4) (markMs ((1 : Nat) : Int) d4) ++ ([ints 2 (Value.slice p3 r0.length c3) (r0)] ++ (mis 81 2 (Value.slice p2 d2.length c2) (d2) ++ (([] : List It))))) (v := Value.slice p5 r0.length c5) (E := 2) (xs := r0) (ys := marks (1) r0.length) (by simpa only [List.append_assoc, List.nil_append] using H) o11 g11
  replace H : Hold w w11' (mis 81 2 (Value.slice p7 d7.length c7) (d7) ++ ([ints 2 (Value.slice p5 r0.length c5) (marks (1) r0.length)] ++ (mis 81 2 (Value.slice p4 d4.length c4) (markMs ((1 : Nat) : Int) d4) ++ ([ints 2 (Value.slice p3 r0.length c3) (r0)] ++ (mis 81 2 (Value.slice p2 d2.length c2) (d2) ++ (([] : List It))))))) := by simpa only [List.append_assoc, List.nil_append] using h11
  clear h11 o11 g11
  go_wp2_with fail
  have hh12 := (Hold.rdI_ (E := 2) (xs := marks (1) r0.length) (ao := p5) (n := r0.length) (cap := c5) (L1 := mis 81 2 (Value.slice p7 d7.length c7) (d7) ++ (([] : List It))) (L2 := mis 81 2 (Value.slice p4 d4.length c4) (markMs ((1 : Nat) : Int) d4) ++ ([ints 2 (Value.slice p3 r0.length c3) (r0)] ++ (mis 81 2 (Value.slice p2 d2.length c2) (d2) ++ (([] : List It))))) (by simpa only [List.append_assoc, List.nil_append] using H))
  rw [marks_len] at hh12
  refine (held_yes _ _ _ _ _ hh12 (by omega) (by omega) (by omega)).mono ?_
  rintro e w' ⟨rfl, rfl⟩
  clear hh12
  go_wp2_with fail
  refine (toModes_to HT0.out hr0 H.below hbig0 hsm0).mono ?_
  rintro e w13' m13
  obtain ⟨p13, c13, d13, hm13, rfl, o13, -, b13⟩ := m13.get
  have HM13 := Lib.hid hm13; have HL13 := Lib.hid (len_of hm13); clear hm13
  replace H := H.makeM ne_md o13 b13
  clear o13 b13 m13
  go_wp2_with fail
  refine (reachI_any _ _ _ _ _ _ (Hold.rdM (E := 81) (EI := 2) (cs := d13) (ao := p13) (n := d13.length) (cap := c13) (L1 := ([] : List It)) (L2 := mis 81 2 (Value.slice p7 d7.length c7) (d7) ++ ([ints 2 (Value.slice p5 r0.length c5) (marks (1) r0.length)] ++ (mis 81 2 (Value.slice p4 d4.length c4) (markMs ((1 : Nat) : Int) d4) ++ ([ints 2 (Value.slice p3 r0.length c3) (r0)] ++ (mis 81 2 (Value.slice p2 d2.length c2) (d2) ++ (([] : List It))))))) (by simpa only [List.append_assoc, List.nil_append] using H)) (by rw [HL13.out]; omega) (small_of HM13.out HSM.out)).mono ?_
  rintro e w14' m14
  rw [HM13.out, HF.out] at m14
  change Makes2 2 _ r0 r1 _ _ at m14
  obtain ⟨p14, c14, rfl, o14, -, b14⟩ := m14.get
  replace H : Hold w _ ([ints 2 (Value.slice p14 r0.length c14) (r0)] ++ (mis 81 2 (Value.slice p13 d13.length c13) (d13) ++ (mis 81 2 (Value.slice p7 d7.length c7) (d7) ++ ([ints 2 (Value.slice p5 r0.length c5) (marks (1) r0.length)] ++ (mis 81 2 (Value.slice p4 d4.length c4) (markMs ((1 : Nat) : Int) d4) ++ ([ints 2 (Value.slice p3 r0.length c3) (r0)] ++ (mis 81 2 (Value.slice p2 d2.length c2) (d2) ++ (([] : List It))))))))) := H.makeI o14 b14
  clear o14 b14 m14
  go_wp2_with fail
  refine (eq_yes _ _ _ _ _ _ _ _ (Hold.rdI_ (E := 2) (xs := r0) (ao := p14) (n := r0.length) (cap := c14) (L1 := ([] : List It)) (L2 := mis 81 2 (Value.slice p13 d13.length c13) (d13) ++ (mis 81 2 (Value.slice p7 d7.length c7) (d7) ++ ([ints 2 (Value.slice p5 r0.length c5) (marks (1) r0.length)] ++ (mis 81 2 (Value.slice p4 d4.length c4) (markMs ((1 : Nat) : Int) d4) ++ ([ints 2 (Value.slice p3 r0.length c3) (r0)] ++ (mis 81 2 (Value.slice p2 d2.length c2) (d2) ++ (([] : List It)))))))) (by simpa only [List.append_assoc, List.nil_append] using H)) (Hold.rdI_ (E := 2) (xs := r0) (ao := p3) (n := r0.length) (cap := c3) (L1 := [ints 2 (Value.slice p14 r0.length c14) (r0)] ++ (mis 81 2 (Value.slice p13 d13.length c13) (d13) ++ (mis 81 2 (Value.slice p7 d7.length c7) (d7) ++ ([ints 2 (Value.slice p5 r0.length c5) (marks (1) r0.length)] ++ (mis 81 2 (Value.slice p4 d4.length c4) (markMs ((1 : Nat) : Int) d4) ++ (([] : List It))))))) (L2 := mis 81 2 (Value.slice p2 d2.length c2) (d2) ++ (([] : List It))) (by simpa only [List.append_assoc, List.nil_append] using H)) (by omega)).mono ?_
  rintro e w15' ⟨rfl, b15⟩
  replace H := H.still b15
  clear b15
  go_wp2_with fail
  have hh16 := (Hold.rdI_ (E := 2) (xs := marks (1) r0.length) (ao := p5) (n := r0.length) (cap := c5) (L1 := [ints 2 (Value.slice p14 r0.length c14) (r0)] ++ (mis 81 2 (Value.slice p13 d13.length c13) (d13) ++ (mis 81 2 (Value.slice p7 d7.length c7) (d7) ++ (([] : List It))))) (L2 := mis 81 2 (Value.slice p4 d4.length c4) (markMs ((1 : Nat) : Int) d4) ++ ([ints 2 (Value.slice p3 r0.length c3) (r0)] ++ (mis 81 2 (Value.slice p2 d2.length c2) (d2) ++ (([] : List It))))) (by simpa only [List.append_assoc, List.nil_append] using H))
  rw [marks_len] at hh16
  refine (held_yes _ _ _ _ _ hh16 (by omega) (by omega) (by omega)).mono ?_
  rintro e w' ⟨rfl, rfl⟩
  clear hh16
  go_wp2_with fail
  go_ret
  exact ⟨rfl, H.below⟩
end Go.Proofs.Ytfmedckompdjgaa.fnExactReachableModes
