/-
  The walk of laws.FnExactReadModeTable: at every input it returns true and writes nothing that was there.
-/
import Derived.Test.YtpedlofckbplmaaRows
import Derived.Test.YtpedlofckbplmaaP3
import Derived.Test.YtpedlofckbplmaaRB
import Derived.WalkKit
import Derived.ProofKit
import Derived.OpenShut
import Derived.ShutString
import Derived.ChangeOld
import Derived.Below
namespace Go.Proofs.Ytpedlofckbplmaa.fnExactReadModeTable
open Go.ChangeShapes Go.WideShapes Go.ChangeAt Go.RowKit
open Go.ChangeMaps (open_string shut_string)
set_option linter.unusedVariables false


/-- WHAT THE WALK IS TOLD OF A SLICE OF INTEGERS THAT CAME IN: it is nil; or it leads to a row of 'cap' cells, the numbers 'zs' (the first 'len' are its elements, the rest its spare room), each fitting its kind. -/
def IsRow (k : IntKind) (w : World) (a : Option Addr) (len cap : Nat) (zs : List Int) : Prop :=
  (a = none ∧ len = 0 ∧ cap = 0 ∧ zs = []) ∨
  ∃ x, a = some x ∧ len ≤ cap ∧ cap ≤ maxLen ∧ zs.length = cap ∧ (∀ i, i < zs.length → w.cell? (x.add i) = some (.int k (zs.getD i 0))) ∧ ∀ n ∈ zs, (Lit.int k n).wf = true

/-! ### STEP 1: THE WALK: the Go text returns true, AND WRITES NOTHING THAT WAS THERE: 'Below w.heap.size w w'' (Derived/Below.lean: '.refl', '.alloc', '.drew', '.setCell' at a new block, '.trans'). Open each 'IsRow' by 'rcases' AHEAD of 'go_enter'; part every test ahead of the walk. -/
set_option maxRecDepth 100000 in set_option maxHeartbeats 4000000 in set_option linter.unnecessarySimpa false in set_option linter.unusedSimpArgs false in
theorem walk (a0 : Option Addr) (len0 cap0 : Nat) (z0 : List Int) (w : World) (w0 : IsRow .i64 w a0 len0 cap0 z0) :
    Calls Try.prog 6 #[.slice a0 len0 cap0] w fun e w' => e = .returned (.bool true) ∧ Below w.heap.size w w' := by
  have hr0 := rd_of_row w0
  clear w0
  generalize List.take len0 z0 = x0 at hr0
  obtain rfl : x0.length = len0 := hr0.len
  by_cases hbig0 : x0.length ≤ 1048576
  rotate_left
  · go_enter Try.func6, Try.ntmps6
    go_wp2
    go_ret
    exact ⟨rfl, Below.refl _ _⟩
  obtain ⟨r0, r1, r2, hF⟩ : ∃ r0 r1 r2, readModeTable x0 = (r0, r1, r2) := ⟨_, _, _, rfl⟩
  have hlen : r0.length ≤ 1048576 ∧ mTot r0 ≤ 3145728 ∧ ∀ x ∈ r0, x.next.length ≤ 1048576 := by have h := readModeTable_small x0; rw [hF] at h; exact h
  obtain ⟨hlr, htr, hsr⟩ := hlen
  have HSM := Lib.hid hsr; clear hsr
  have HF := Lib.hid hF; clear hF
  have H : Hold w w [] := Hold.start
  go_enter Try.func6, Try.ntmps6
  go_wp2_with fail
  refine (toInt_any _ _ _ _ _ (hr0.below H.below) hbig0).mono ?_
  rintro e w1' m1
  obtain ⟨p1, c1, rfl, o1, -, b1⟩ := m1.get
  replace H : Hold w _ ([ints 2 (Value.slice p1 x0.length c1) (x0)] ++ (([] : List It))) := H.makeI o1 b1
  clear o1 b1 m1
  go_wp2_with fail
  refine (readModesS_any _ _ _ _ _ (Hold.rdI_ (E := 2) (xs := x0) (ao := p1) (n := x0.length) (cap := c1) (L1 := ([] : List It)) (L2 := ([] : List It)) (by simpa only [List.append_assoc, List.nil_append] using H)) hbig0 (Own.cap (Hold.getI_ (E := 2) (xs := x0) (v := Value.slice p1 x0.length c1) (L1 := ([] : List It)) (L2 := ([] : List It)) (by simpa only [List.append_assoc, List.nil_append] using H))).1 (Own.cap (Hold.getI_ (E := 2) (xs := x0) (v := Value.slice p1 x0.length c1) (L1 := ([] : List It)) (L2 := ([] : List It)) (by simpa only [List.append_assoc, List.nil_append] using H))).2).mono ?_
  rintro e w2' m2
  rw [HF.out] at m2
  change MakesM3 78 2 _ r0 r1 r2 _ _ at m2
  obtain ⟨p2, c2, d2, hm2, rfl, o2, -, b2⟩ := m2.get
  have HM2 := Lib.hid hm2; have HL2 := Lib.hid (len_of hm2); clear hm2
  replace H := H.makeM ne_md o2 b2
  clear o2 b2 m2
  go_wp2_with fail
  refine (toInt_any _ _ _ _ _ (hr0.below H.below) hbig0).mono ?_
  rintro e w3' m3
  obtain ⟨p3, c3, rfl, o3, -, b3⟩ := m3.get
  replace H : Hold w _ ([ints 2 (Value.slice p3 x0.length c3) (x0)] ++ (mis 78 2 (Value.slice p2 d2.length c2) (d2) ++ ([ints 2 (Value.slice p1 x0.length c1) (x0)] ++ (([] : List It))))) := H.makeI o3 b3
  clear o3 b3 m3
  go_wp2_with fail
  refine (readModesI_any _ _ _ _ _ (Hold.rdI_ (E := 2) (xs := x0) (ao := p3) (n := x0.length) (cap := c3) (L1 := ([] : List It)) (L2 := mis 78 2 (Value.slice p2 d2.length c2) (d2) ++ ([ints 2 (Value.slice p1 x0.length c1) (x0)] ++ (([] : List It)))) (by simpa only [List.append_assoc, List.nil_append] using H)) hbig0 (Own.cap (Hold.getI_ (E := 2) (xs := x0) (v := Value.slice p3 x0.length c3) (L1 := ([] : List It)) (L2 := mis 78 2 (Value.slice p2 d2.length c2) (d2) ++ ([ints 2 (Value.slice p1 x0.length c1) (x0)] ++ (([] : List It)))) (by simpa only [List.append_assoc, List.nil_append] using H))).1 (Own.cap (Hold.getI_ (E := 2) (xs := x0) (v := Value.slice p3 x0.length c3) (L1 := ([] : List It)) (L2 := mis 78 2 (Value.slice p2 d2.length c2) (d2) ++ ([ints 2 (Value.slice p1 x0.length c1) (x0)] ++ (([] : List It)))) (by simpa only [List.append_assoc, List.nil_append] using H))).2 (fun a e => ((Hold.getI_ (E := 2) (xs := x0) (v := Value.slice p3 x0.length c3) (L1 := ([] : List It)) (L2 := mis 78 2 (Value.slice p2 d2.length c2) (d2) ++ ([ints 2 (Value.slice p1 x0.length c1) (x0)] ++ (([] : List It)))) (by simpa only [List.append_assoc, List.nil_append] using H)).block _ (by rw [e]; rfl)).2)).mono ?_
  rintro e w4' m4
  rw [HF.out] at m4
  change MakesM3 78 2 _ r0 r1 r2 _ _ at m4
  obtain ⟨p4, c4, d4, hm4, rfl, o4, -, b4⟩ := m4.get
  have HM4 := Lib.hid hm4; have HL4 := Lib.hid (len_of hm4); clear hm4
  replace H := H.makeM ne_md o4 b4
  clear o4 b4 m4
  go_wp2_with fail
  refine (eqModes_two _ _ _ _ _ _ _ (Hold.rdM (E := 78) (EI := 2) (cs := d4) (ao := p4) (n := d4.length) (cap := c4) (L1 := ([] : List It)) (L2 := [ints 2 (Value.slice p3 x0.length c3) (x0)] ++ (mis 78 2 (Value.slice p2 d2.length c2) (d2) ++ ([ints 2 (Value.slice p1 x0.length c1) (x0)] ++ (([] : List It))))) (by simpa only [List.append_assoc, List.nil_append] using H)) (Hold.rdM (E := 78) (EI := 2) (cs := d2) (ao := p2) (n := d2.length) (cap := c2) (L1 := mis 78 2 (Value.slice p4 d4.length c4) (d4) ++ ([ints 2 (Value.slice p3 x0.length c3) (x0)] ++ (([] : List It)))) (L2 := [ints 2 (Value.slice p1 x0.length c1) (x0)] ++ (([] : List It))) (by simpa only [List.append_assoc, List.nil_append] using H)) (HM4.out.trans HM2.out.symm) (by rw [HL4.out]; omega)).mono ?_
  rintro e w5' ⟨rfl, b5⟩
  replace H := H.still b5
  clear b5
  go_wp2_with fail
  refine (toInt_any _ _ _ _ _ (hr0.below H.below) hbig0).mono ?_
  rintro e w6' m6
  obtain ⟨p6, c6, rfl, o6, -, b6⟩ := m6.get
  replace H : Hold w _ ([ints 2 (Value.slice p6 x0.length c6) (x0)] ++ (mis 78 2 (Value.slice p4 d4.length c4) (d4) ++ ([ints 2 (Value.slice p3 x0.length c3) (x0)] ++ (mis 78 2 (Value.slice p2 d2.length c2) (d2) ++ ([ints 2 (Value.slice p1 x0.length c1) (x0)] ++ (([] : List It))))))) := H.makeI o6 b6
  clear o6 b6 m6
  go_wp2_with fail
  refine (eq_yes _ _ _ _ _ _ _ _ (Hold.rdI_ (E := 2) (xs := x0) (ao := p3) (n := x0.length) (cap := c3) (L1 := [ints 2 (Value.slice p6 x0.length c6) (x0)] ++ (mis 78 2 (Value.slice p4 d4.length c4) (d4) ++ (([] : List It)))) (L2 := mis 78 2 (Value.slice p2 d2.length c2) (d2) ++ ([ints 2 (Value.slice p1 x0.length c1) (x0)] ++ (([] : List It)))) (by simpa only [List.append_assoc, List.nil_append] using H)) (Hold.rdI_ (E := 2) (xs := x0) (ao := p6) (n := x0.length) (cap := c6) (L1 := ([] : List It)) (L2 := mis 78 2 (Value.slice p4 d4.length c4) (d4) ++ ([ints 2 (Value.slice p3 x0.length c3) (x0)] ++ (mis 78 2 (Value.slice p2 d2.length c2) (d2) ++ ([ints 2 (Value.slice p1 x0.length c1) (x0)] ++ (([] : List It)))))) (by simpa only [List.append_assoc, List.nil_append] using H)) (by omega)).mono ?_
  rintro e w7' ⟨rfl, b7⟩
  replace H := H.still b7
  clear b7
  go_wp2_with fail
  refine (mark_own _ _ _ _ _ _ _ rfl (Hold.getI_ (E := 2) (xs := x0) (v := Value.slice p3 x0.length c3) (L1 := [ints 2 (Value.slice p6 x0.length c6) (x0)] ++ (mis 78 2 (Value.slice p4 d4.length c4) (d4) ++ (([] : List It)))) (L2 := mis 78 2 (Value.slice p2 d2.length c2) (d2) ++ ([ints 2 (Value.slice p1 x0.length c1) (x0)] ++ (([] : List It)))) (by simpa only [List.append_assoc, List.nil_append] using H)) (by omega) (by omega) (by omega)).mono ?_
  rintro e w8' ⟨rfl, o8, g8⟩
  have h8 := Hold.markI_ (L1 := [ints 2 (Value.slice p6 x0.length c6) (x0)] ++ (mis 78 2 (Value.slice p4 d4.length c4) (d4) ++ (([] : List It)))) (L2 := mis 78 2 (Value.slice p2 d2.length c2) (d2) ++ ([ints 2 (Value.slice p1 x0.length c1) (x0)] ++ (([] : List It)))) (v := Value.slice p3 x0.length c3) (E := 2) (xs := x0) (ys := marks (1) x0.length) (by simpa only [List.append_assoc, List.nil_append] using H) o8 g8
  replace H : Hold w w8' ([ints 2 (Value.slice p6 x0.length c6) (x0)] ++ (mis 78 2 (Value.slice p4 d4.length c4) (d4) ++ ([ints 2 (Value.slice p3 x0.length c3) (marks (1) x0.length)] ++ (mis 78 2 (Value.slice p2 d2.length c2) (d2) ++ ([ints 2 (Value.slice p1 x0.length c1) (x0)] ++ (([] : List It))))))) := by simpa only [List.append_assoc, List.nil_append] using h8
  clear h8 o8 g8
  go_wp2_with fail
  refine (eqModes_two _ _ _ _ _ _ _ (Hold.rdM (E := 78) (EI := 2) (cs := d4) (ao := p4) (n := d4.length) (cap := c4) (L1 := [ints 2 (Value.slice p6 x0.length c6) (x0)] ++ (([] : List It))) (L2 := [ints 2 (Value.slice p3 x0.length c3) (marks (1) x0.length)] ++ (mis 78 2 (Value.slice p2 d2.length c2) (d2) ++ ([ints 2 (Value.slice p1 x0.length c1) (x0)] ++ (([] : List It))))) (by simpa only [List.append_assoc, List.nil_append] using H)) (Hold.rdM (E := 78) (EI := 2) (cs := d2) (ao := p2) (n := d2.length) (cap := c2) (L1 := [ints 2 (Value.slice p6 x0.length c6) (x0)] ++ (mis 78 2 (Value.slice p4 d4.length c4) (d4) ++ ([ints 2 (Value.slice p3 x0.length c3) (marks (1) x0.length)] ++ (([] : List It))))) (L2 := [ints 2 (Value.slice p1 x0.length c1) (x0)] ++ (([] : List It))) (by simpa only [List.append_assoc, List.nil_append] using H)) (HM4.out.trans HM2.out.symm) (by rw [HL4.out]; omega)).mono ?_
  rintro e w9' ⟨rfl, b9⟩
  replace H := H.still b9
  clear b9
  go_wp2_with fail
  refine (markModes_any _ _ _ d4 ([ints 2 (Value.slice p6 x0.length c6) (x0)] ++ (([] : List It))) ([ints 2 (Value.slice p3 x0.length c3) (marks (1) x0.length)] ++ (mis 78 2 (Value.slice p2 d2.length c2) (d2) ++ ([ints 2 (Value.slice p1 x0.length c1) (x0)] ++ (([] : List It))))) 1 _ _ rfl (by simpa only [List.append_assoc, List.nil_append] using H) (by rw [HM4.out]; omega) (by rw [HL4.out]; omega) (by omega)).mono ?_
  rintro e w10' ⟨rfl, h10⟩
  replace H : Hold w w10' ([ints 2 (Value.slice p6 x0.length c6) (x0)] ++ (mis 78 2 (Value.slice p4 d4.length c4) (markMs ((1 : Nat) : Int) d4) ++ ([ints 2 (Value.slice p3 x0.length c3) (marks (1) x0.length)] ++ (mis 78 2 (Value.slice p2 d2.length c2) (d2) ++ ([ints 2 (Value.slice p1 x0.length c1) (x0)] ++ (([] : List It))))))) := by simpa only [List.append_assoc, List.nil_append] using h10
  clear h10
  rw [HM4.out]
  go_wp2_with fail
  have hh11 := rdM_marks (Hold.rdM (E := 78) (EI := 2) (cs := markMs ((1 : Nat) : Int) d4) (ao := p4) (n := d4.length) (cap := c4) (L1 := [ints 2 (Value.slice p6 x0.length c6) (x0)] ++ (([] : List It))) (L2 := [ints 2 (Value.slice p3 x0.length c3) (marks (1) x0.length)] ++ (mis 78 2 (Value.slice p2 d2.length c2) (d2) ++ ([ints 2 (Value.slice p1 x0.length c1) (x0)] ++ (([] : List It))))) (by simpa only [List.append_assoc, List.nil_append] using H))
  refine (heldModes_yes _ _ _ _ 1 _ rfl hh11 (by rw [HM4.out]; omega) (by rw [HL4.out]; omega) (by omega)).mono ?_
  rintro e w' ⟨rfl, rfl⟩
  clear hh11
  rw [HM4.out]
  go_wp2_with fail
  refine (toInt_any _ _ _ _ _ (hr0.below H.below) hbig0).mono ?_
  rintro e w12' m12
  obtain ⟨p12, c12, rfl, o12, -, b12⟩ := m12.get
  replace H : Hold w _ ([ints 2 (Value.slice p12 x0.length c12) (x0)] ++ ([ints 2 (Value.slice p6 x0.length c6) (x0)] ++ (mis 78 2 (Value.slice p4 d4.length c4) (markMs ((1 : Nat) : Int) d4) ++ ([ints 2 (Value.slice p3 x0.length c3) (marks (1) x0.length)] ++ (mis 78 2 (Value.slice p2 d2.length c2) (d2) ++ ([ints 2 (Value.slice p1 x0.length c1) (x0)] ++ (([] : List It)))))))) := H.makeI o12 b12
  clear o12 b12 m12
  go_wp2_with fail
  refine (readModesI_any _ _ _ _ _ (Hold.rdI_ (E := 2) (xs := x0) (ao := p12) (n := x0.length) (cap := c12) (L1 := ([] : List It)) (L2 := [ints 2 (Value.slice p6 x0.length c6) (x0)] ++ (mis 78 2 (Value.slice p4 d4.length c4) (markMs ((1 : Nat) : Int) d4) ++ ([ints 2 (Value.slice p3 x0.length c3) (marks (1) x0.length)] ++ (mis 78 2 (Value.slice p2 d2.length c2) (d2) ++ ([ints 2 (Value.slice p1 x0.length c1) (x0)] ++ (([] : List It))))))) (by simpa only [List.append_assoc, List.nil_append] using H)) hbig0 (Own.cap (Hold.getI_ (E := 2) (xs := x0) (v := Value.slice p12 x0.length c12) (L1 := ([] : List It)) (L2 := [ints 2 (Value.slice p6 x0.length c6) (x0)] ++ (mis 78 2 (Value.slice p4 d4.length c4) (markMs ((1 : Nat) : Int) d4) ++ ([ints 2 (Value.slice p3 x0.length c3) (marks (1) x0.length)] ++ (mis 78 2 (Value.slice p2 d2.length c2) (d2) ++ ([ints 2 (Value.slice p1 x0.length c1) (x0)] ++ (([] : List It))))))) (by simpa only [List.append_assoc, List.nil_append] using H))).1 (Own.cap (Hold.getI_ (E := 2) (xs := x0) (v := Value.slice p12 x0.length c12) (L1 := ([] : List It)) (L2 := [ints 2 (Value.slice p6 x0.length c6) (x0)] ++ (mis 78 2 (Value.slice p4 d4.length c4) (markMs ((1 : Nat) : Int) d4) ++ ([ints 2 (Value.slice p3 x0.length c3) (marks (1) x0.length)] ++ (mis 78 2 (Value.slice p2 d2.length c2) (d2) ++ ([ints 2 (Value.slice p1 x0.length c1) (x0)] ++ (([] : List It))))))) (by simpa only [List.append_assoc, List.nil_append] using H))).2 (fun a e => ((Hold.getI_ (E := 2) (xs := x0) (v := Value.slice p12 x0.length c12) (L1 := ([] : List It)) (L2 := [ints 2 (Value.slice p6 x0.length c6) (x0)] ++ (mis 78 2 (Value.slice p4 d4.length c4) (markMs ((1 : Nat) : Int) d4) ++ ([ints 2 (Value.slice p3 x0.length c3) (marks (1) x0.length)] ++ (mis 78 2 (Value.slice p2 d2.length c2) (d2) ++ ([ints 2 (Value.slice p1 x0.length c1) (x0)] ++ (([] : List It))))))) (by simpa only [List.append_assoc, List.nil_append] using H)).block _ (by rw [e]; rfl)).2)).mono ?_
  rintro e w13' m13
  rw [HF.out] at m13
  change MakesM3 78 2 _ r0 r1 r2 _ _ at m13
  obtain ⟨p13, c13, d13, hm13, rfl, o13, -, b13⟩ := m13.get
  have HM13 := Lib.hid hm13; have HL13 := Lib.hid (len_of hm13); clear hm13
  replace H := H.makeM ne_md o13 b13
  clear o13 b13 m13
  go_wp2_with fail
  refine (eqModes_two _ _ _ _ _ _ _ (Hold.rdM (E := 78) (EI := 2) (cs := d13) (ao := p13) (n := d13.length) (cap := c13) (L1 := ([] : List It)) (L2 := [ints 2 (Value.slice p12 x0.length c12) (x0)] ++ ([ints 2 (Value.slice p6 x0.length c6) (x0)] ++ (mis 78 2 (Value.slice p4 d4.length c4) (markMs ((1 : Nat) : Int) d4) ++ ([ints 2 (Value.slice p3 x0.length c3) (marks (1) x0.length)] ++ (mis 78 2 (Value.slice p2 d2.length c2) (d2) ++ ([ints 2 (Value.slice p1 x0.length c1) (x0)] ++ (([] : List It)))))))) (by simpa only [List.append_assoc, List.nil_append] using H)) (Hold.rdM (E := 78) (EI := 2) (cs := d2) (ao := p2) (n := d2.length) (cap := c2) (L1 := mis 78 2 (Value.slice p13 d13.length c13) (d13) ++ ([ints 2 (Value.slice p12 x0.length c12) (x0)] ++ ([ints 2 (Value.slice p6 x0.length c6) (x0)] ++ (mis 78 2 (Value.slice p4 d4.length c4) (markMs ((1 : Nat) : Int) d4) ++ ([ints 2 (Value.slice p3 x0.length c3) (marks (1) x0.length)] ++ (([] : List It))))))) (L2 := [ints 2 (Value.slice p1 x0.length c1) (x0)] ++ (([] : List It))) (by simpa only [List.append_assoc, List.nil_append] using H)) (HM13.out.trans HM2.out.symm) (by rw [HL13.out]; omega)).mono ?_
  rintro e w14' ⟨rfl, b14⟩
  replace H := H.still b14
  clear b14
  go_wp2_with fail
  have hh15 := rdM_marks (Hold.rdM (E := 78) (EI := 2) (cs := markMs ((1 : Nat) : Int) d4) (ao := p4) (n := d4.length) (cap := c4) (L1 := mis 78 2 (Value.slice p13 d13.length c13) (d13) ++ ([ints 2 (Value.slice p12 x0.length c12) (x0)] ++ ([ints 2 (Value.slice p6 x0.length c6) (x0)] ++ (([] : List It))))) (L2 := [ints 2 (Value.slice p3 x0.length c3) (marks (1) x0.length)] ++ (mis 78 2 (Value.slice p2 d2.length c2) (d2) ++ ([ints 2 (Value.slice p1 x0.length c1) (x0)] ++ (([] : List It))))) (by simpa only [List.append_assoc, List.nil_append] using H))
  refine (heldModes_yes _ _ _ _ 1 _ rfl hh15 (by rw [HM4.out]; omega) (by rw [HL4.out]; omega) (by omega)).mono ?_
  rintro e w' ⟨rfl, rfl⟩
  clear hh15
  rw [HM4.out]
  go_wp2_with fail
  go_ret
  exact ⟨rfl, H.below⟩


end Go.Proofs.Ytpedlofckbplmaa.fnExactReadModeTable
