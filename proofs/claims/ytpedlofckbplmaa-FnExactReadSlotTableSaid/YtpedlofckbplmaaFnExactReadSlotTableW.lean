/-
  The walk of laws.FnExactReadSlotTable: at every input it returns true and writes nothing that was there.
-/
import Derived.Test.YtpedlofckbplmaaRows
import Derived.Test.YtpedlofckbplmaaP3
import Derived.Test.YtpedlofckbplmaaSlR
import Derived.Test.YtpedlofckbplmaaSlB
import Derived.Test.YtpedlofckbplmaaSlU
import Derived.WalkKit
import Derived.ProofKit
import Derived.OpenShut
import Derived.ShutString
import Derived.ChangeOld
import Derived.Below
namespace Go.Proofs.Ytpedlofckbplmaa.fnExactReadSlotTable
open Go.ChangeShapes Go.WideShapes Go.ChangeAt Go.RowKit
open Go.ChangeMaps (open_string shut_string)
set_option linter.unusedVariables false


/-- WHAT THE WALK IS TOLD OF A SLICE OF INTEGERS THAT CAME IN: it is nil; or it leads to a row of 'cap' cells, the numbers 'zs' (the first 'len' are its elements, the rest its spare room), each fitting its kind. -/
def IsRow (k : IntKind) (w : World) (a : Option Addr) (len cap : Nat) (zs : List Int) : Prop :=
  (a = none ∧ len = 0 ∧ cap = 0 ∧ zs = []) ∨
  ∃ x, a = some x ∧ len ≤ cap ∧ cap ≤ maxLen ∧ zs.length = cap ∧ (∀ i, i < zs.length → w.cell? (x.add i) = some (.int k (zs.getD i 0))) ∧ ∀ n ∈ zs, (Lit.int k n).wf = true

/-! ### STEP 1: THE WALK: the Go text returns true, AND WRITES NOTHING THAT WAS THERE: 'Below w.heap.size w w'' (Derived/Below.lean: '.refl', '.alloc', '.drew', '.setCell' at a new block, '.trans'). Open each 'IsRow' by 'rcases' AHEAD of 'go_enter'; part every test ahead of the walk. -/
set_option maxRecDepth 100000 in set_option maxHeartbeats 4000000 in set_option linter.unnecessarySimpa false in set_option linter.unusedSimpArgs false in
theorem walk (a0 : Option Addr) (len0 cap0 : Nat) (z0 : List Int) (w : World) (w0 : IsRow .i64 w a0 len0 cap0 z0) :
    Calls Try.prog 8 #[.slice a0 len0 cap0] w fun e w' => e = .returned (.bool true) ∧ Below w.heap.size w w' := by
  have hr0 := rd_of_row w0
  clear w0
  generalize List.take len0 z0 = x0 at hr0
  obtain rfl : x0.length = len0 := hr0.len
  by_cases hbig0 : x0.length ≤ 1048576
  rotate_left
  · go_enter Try.func8, Try.ntmps8
    go_wp2
    go_ret
    exact ⟨rfl, Below.refl _ _⟩
  obtain ⟨r0, r1, r2, hF⟩ : ∃ r0 r1 r2, readSlotTable x0 = (r0, r1, r2) := ⟨_, _, _, rfl⟩
  have hlen : r0.length ≤ 1048576 := by have h := readSlotTable_small x0; rw [hF] at h; exact h
  have HF := Lib.hid hF; clear hF
  have H : Hold w w [] := Hold.start
  go_enter Try.func8, Try.ntmps8
  go_wp2_with fail
  refine (toInt_any _ _ _ _ _ (hr0.below H.below) hbig0).mono ?_
  rintro e w1' m1
  obtain ⟨p1, c1, rfl, o1, -, b1⟩ := m1.get
  replace H : Hold w _ ([ints 2 (Value.slice p1 x0.length c1) (x0)] ++ (([] : List It))) := H.makeI o1 b1
  clear o1 b1 m1
  go_wp2_with fail
  refine (readSlotsS_any _ _ _ _ _ (Hold.rdI_ (E := 2) (xs := x0) (ao := p1) (n := x0.length) (cap := c1) (L1 := ([] : List It)) (L2 := ([] : List It)) (by simpa only [List.append_assoc, List.nil_append] using H)) hbig0 (Own.cap (Hold.getI_ (E := 2) (xs := x0) (v := Value.slice p1 x0.length c1) (L1 := ([] : List It)) (L2 := ([] : List It)) (by simpa only [List.append_assoc, List.nil_append] using H))).1 (Own.cap (Hold.getI_ (E := 2) (xs := x0) (v := Value.slice p1 x0.length c1) (L1 := ([] : List It)) (L2 := ([] : List It)) (by simpa only [List.append_assoc, List.nil_append] using H))).2).mono ?_
  rintro e w2' m2
  rw [HF.out] at m2
  change MakesE3 93 _ r0 r1 r2 _ _ at m2
  obtain ⟨p2, c2, rfl, o2, -, b2⟩ := m2.get
  replace H : Hold w _ ([itsE 93 (Value.slice p2 r0.length c2) (r0)] ++ ([ints 2 (Value.slice p1 x0.length c1) (x0)] ++ (([] : List It)))) := H.makeE o2 b2
  clear o2 b2 m2
  go_wp2_with fail
  refine (toInt_any _ _ _ _ _ (hr0.below H.below) hbig0).mono ?_
  rintro e w3' m3
  obtain ⟨p3, c3, rfl, o3, -, b3⟩ := m3.get
  replace H : Hold w _ ([ints 2 (Value.slice p3 x0.length c3) (x0)] ++ ([itsE 93 (Value.slice p2 r0.length c2) (r0)] ++ ([ints 2 (Value.slice p1 x0.length c1) (x0)] ++ (([] : List It))))) := H.makeI o3 b3
  clear o3 b3 m3
  go_wp2_with fail
  refine (readSlotsI_any _ _ _ _ _ (Hold.rdI_ (E := 2) (xs := x0) (ao := p3) (n := x0.length) (cap := c3) (L1 := ([] : List It)) (L2 := [itsE 93 (Value.slice p2 r0.length c2) (r0)] ++ ([ints 2 (Value.slice p1 x0.length c1) (x0)] ++ (([] : List It)))) (by simpa only [List.append_assoc, List.nil_append] using H)) hbig0 (Own.cap (Hold.getI_ (E := 2) (xs := x0) (v := Value.slice p3 x0.length c3) (L1 := ([] : List It)) (L2 := [itsE 93 (Value.slice p2 r0.length c2) (r0)] ++ ([ints 2 (Value.slice p1 x0.length c1) (x0)] ++ (([] : List It)))) (by simpa only [List.append_assoc, List.nil_append] using H))).1 (Own.cap (Hold.getI_ (E := 2) (xs := x0) (v := Value.slice p3 x0.length c3) (L1 := ([] : List It)) (L2 := [itsE 93 (Value.slice p2 r0.length c2) (r0)] ++ ([ints 2 (Value.slice p1 x0.length c1) (x0)] ++ (([] : List It)))) (by simpa only [List.append_assoc, List.nil_append] using H))).2 (fun a e => ((Hold.getI_ (E := 2) (xs := x0) (v := Value.slice p3 x0.length c3) (L1 := ([] : List It)) (L2 := [itsE 93 (Value.slice p2 r0.length c2) (r0)] ++ ([ints 2 (Value.slice p1 x0.length c1) (x0)] ++ (([] : List It)))) (by simpa only [List.append_assoc, List.nil_append] using H)).block _ (by rw [e]; rfl)).2)).mono ?_
  rintro e w4' m4
  rw [HF.out] at m4
  change MakesE3 93 _ r0 r1 r2 _ _ at m4
  obtain ⟨p4, c4, rfl, o4, -, b4⟩ := m4.get
  replace H : Hold w _ ([itsE 93 (Value.slice p4 r0.length c4) (r0)] ++ ([ints 2 (Value.slice p3 x0.length c3) (x0)] ++ ([itsE 93 (Value.slice p2 r0.length c2) (r0)] ++ ([ints 2 (Value.slice p1 x0.length c1) (x0)] ++ (([] : List It)))))) := H.makeE o4 b4
  clear o4 b4 m4
  go_wp2_with fail
  refine (eqSlots_yes _ _ _ _ _ _ _ (Hold.rdE_ (E := 93) (t := r0) (ao := p4) (n := r0.length) (cap := c4) (L1 := ([] : List It)) (L2 := [ints 2 (Value.slice p3 x0.length c3) (x0)] ++ ([itsE 93 (Value.slice p2 r0.length c2) (r0)] ++ ([ints 2 (Value.slice p1 x0.length c1) (x0)] ++ (([] : List It))))) (by simpa only [List.append_assoc, List.nil_append] using H)) (Hold.rdE_ (E := 93) (t := r0) (ao := p2) (n := r0.length) (cap := c2) (L1 := [itsE 93 (Value.slice p4 r0.length c4) (r0)] ++ ([ints 2 (Value.slice p3 x0.length c3) (x0)] ++ (([] : List It)))) (L2 := [ints 2 (Value.slice p1 x0.length c1) (x0)] ++ (([] : List It))) (by simpa only [List.append_assoc, List.nil_append] using H)) (by omega) (OwnE.cap (Hold.getE_ (E := 93) (t := r0) (v := Value.slice p4 r0.length c4) (L1 := ([] : List It)) (L2 := [ints 2 (Value.slice p3 x0.length c3) (x0)] ++ ([itsE 93 (Value.slice p2 r0.length c2) (r0)] ++ ([ints 2 (Value.slice p1 x0.length c1) (x0)] ++ (([] : List It))))) (by simpa only [List.append_assoc, List.nil_append] using H))).1 (OwnE.cap (Hold.getE_ (E := 93) (t := r0) (v := Value.slice p2 r0.length c2) (L1 := [itsE 93 (Value.slice p4 r0.length c4) (r0)] ++ ([ints 2 (Value.slice p3 x0.length c3) (x0)] ++ (([] : List It)))) (L2 := [ints 2 (Value.slice p1 x0.length c1) (x0)] ++ (([] : List It))) (by simpa only [List.append_assoc, List.nil_append] using H))).1).mono ?_
  rintro e w5' ⟨rfl, b5⟩
  replace H := H.still b5
  clear b5
  go_wp2_with fail
  refine (toInt_any _ _ _ _ _ (hr0.below H.below) hbig0).mono ?_
  rintro e w6' m6
  obtain ⟨p6, c6, rfl, o6, -, b6⟩ := m6.get
  replace H : Hold w _ ([ints 2 (Value.slice p6 x0.length c6) (x0)] ++ ([itsE 93 (Value.slice p4 r0.length c4) (r0)] ++ ([ints 2 (Value.slice p3 x0.length c3) (x0)] ++ ([itsE 93 (Value.slice p2 r0.length c2) (r0)] ++ ([ints 2 (Value.slice p1 x0.length c1) (x0)] ++ (([] : List It))))))) := H.makeI o6 b6
  clear o6 b6 m6
  go_wp2_with fail
  refine (eq_yes _ _ _ _ _ _ _ _ (Hold.rdI_ (E := 2) (xs := x0) (ao := p3) (n := x0.length) (cap := c3) (L1 := [ints 2 (Value.slice p6 x0.length c6) (x0)] ++ ([itsE 93 (Value.slice p4 r0.length c4) (r0)] ++ (([] : List It)))) (L2 := [itsE 93 (Value.slice p2 r0.length c2) (r0)] ++ ([ints 2 (Value.slice p1 x0.length c1) (x0)] ++ (([] : List It)))) (by simpa only [List.append_assoc, List.nil_append] using H)) (Hold.rdI_ (E := 2) (xs := x0) (ao := p6) (n := x0.length) (cap := c6) (L1 := ([] : List It)) (L2 := [itsE 93 (Value.slice p4 r0.length c4) (r0)] ++ ([ints 2 (Value.slice p3 x0.length c3) (x0)] ++ ([itsE 93 (Value.slice p2 r0.length c2) (r0)] ++ ([ints 2 (Value.slice p1 x0.length c1) (x0)] ++ (([] : List It)))))) (by simpa only [List.append_assoc, List.nil_append] using H)) (by omega)).mono ?_
  rintro e w7' ⟨rfl, b7⟩
  replace H := H.still b7
  clear b7
  go_wp2_with fail
  refine (mark_own _ _ _ _ _ _ _ rfl (Hold.getI_ (E := 2) (xs := x0) (v := Value.slice p3 x0.length c3) (L1 := [ints 2 (Value.slice p6 x0.length c6) (x0)] ++ ([itsE 93 (Value.slice p4 r0.length c4) (r0)] ++ (([] : List It)))) (L2 := [itsE 93 (Value.slice p2 r0.length c2) (r0)] ++ ([ints 2 (Value.slice p1 x0.length c1) (x0)] ++ (([] : List It)))) (by simpa only [List.append_assoc, List.nil_append] using H)) (by omega) (by omega) (by omega)).mono ?_
  rintro e w8' ⟨rfl, o8, g8⟩
  have h8 := Hold.markI_ (L1 := [ints 2 (Value.slice p6 x0.length c6) (x0)] ++ ([itsE 93 (Value.slice p4 r0.length c4) (r0)] ++ (([] : List It)))) (L2 := [itsE 93 (Value.slice p2 r0.length c2) (r0)] ++ ([ints 2 (Value.slice p1 x0.length c1) (x0)] ++ (([] : List It)))) (v := Value.slice p3 x0.length c3) (E := 2) (xs := x0) (ys := marks (1) x0.length) (by simpa only [List.append_assoc, List.nil_append] using H) o8 g8
  replace H : Hold w w8' ([ints 2 (Value.slice p6 x0.length c6) (x0)] ++ ([itsE 93 (Value.slice p4 r0.length c4) (r0)] ++ ([ints 2 (Value.slice p3 x0.length c3) (marks (1) x0.length)] ++ ([itsE 93 (Value.slice p2 r0.length c2) (r0)] ++ ([ints 2 (Value.slice p1 x0.length c1) (x0)] ++ (([] : List It))))))) := by simpa only [List.append_assoc, List.nil_append] using h8
  clear h8 o8 g8
  go_wp2_with fail
  refine (eqSlots_yes _ _ _ _ _ _ _ (Hold.rdE_ (E := 93) (t := r0) (ao := p4) (n := r0.length) (cap := c4) (L1 := [ints 2 (Value.slice p6 x0.length c6) (x0)] ++ (([] : List It))) (L2 := [ints 2 (Value.slice p3 x0.length c3) (marks (1) x0.length)] ++ ([itsE 93 (Value.slice p2 r0.length c2) (r0)] ++ ([ints 2 (Value.slice p1 x0.length c1) (x0)] ++ (([] : List It))))) (by simpa only [List.append_assoc, List.nil_append] using H)) (Hold.rdE_ (E := 93) (t := r0) (ao := p2) (n := r0.length) (cap := c2) (L1 := [ints 2 (Value.slice p6 x0.length c6) (x0)] ++ ([itsE 93 (Value.slice p4 r0.length c4) (r0)] ++ ([ints 2 (Value.slice p3 x0.length c3) (marks (1) x0.length)] ++ (([] : List It))))) (L2 := [ints 2 (Value.slice p1 x0.length c1) (x0)] ++ (([] : List It))) (by simpa only [List.append_assoc, List.nil_append] using H)) (by omega) (OwnE.cap (Hold.getE_ (E := 93) (t := r0) (v := Value.slice p4 r0.length c4) (L1 := [ints 2 (Value.slice p6 x0.length c6) (x0)] ++ (([] : List It))) (L2 := [ints 2 (Value.slice p3 x0.length c3) (marks (1) x0.length)] ++ ([itsE 93 (Value.slice p2 r0.length c2) (r0)] ++ ([ints 2 (Value.slice p1 x0.length c1) (x0)] ++ (([] : List It))))) (by simpa only [List.append_assoc, List.nil_append] using H))).1 (OwnE.cap (Hold.getE_ (E := 93) (t := r0) (v := Value.slice p2 r0.length c2) (L1 := [ints 2 (Value.slice p6 x0.length c6) (x0)] ++ ([itsE 93 (Value.slice p4 r0.length c4) (r0)] ++ ([ints 2 (Value.slice p3 x0.length c3) (marks (1) x0.length)] ++ (([] : List It))))) (L2 := [ints 2 (Value.slice p1 x0.length c1) (x0)] ++ (([] : List It))) (by simpa only [List.append_assoc, List.nil_append] using H))).1).mono ?_
  rintro e w9' ⟨rfl, b9⟩
  replace H := H.still b9
  clear b9
  go_wp2_with fail
  refine (markSlots_any _ _ _ _ _ _ _ rfl (Hold.getE_ (E := 93) (t := r0) (v := Value.slice p4 r0.length c4) (L1 := [ints 2 (Value.slice p6 x0.length c6) (x0)] ++ (([] : List It))) (L2 := [ints 2 (Value.slice p3 x0.length c3) (marks (1) x0.length)] ++ ([itsE 93 (Value.slice p2 r0.length c2) (r0)] ++ ([ints 2 (Value.slice p1 x0.length c1) (x0)] ++ (([] : List It))))) (by simpa only [List.append_assoc, List.nil_append] using H)) (by omega) (by omega) (by omega)).mono ?_
  rintro e w10' ⟨rfl, o10, g10⟩
  have h10 := Hold.markE_ (L1 := [ints 2 (Value.slice p6 x0.length c6) (x0)] ++ (([] : List It))) (L2 := [ints 2 (Value.slice p3 x0.length c3) (marks (1) x0.length)] ++ ([itsE 93 (Value.slice p2 r0.length c2) (r0)] ++ ([ints 2 (Value.slice p1 x0.length c1) (x0)] ++ (([] : List It))))) (v := Value.slice p4 r0.length c4) (E := 93) (t := r0) (u := marksS (1) r0.length) (by simpa only [List.append_assoc, List.nil_append] using H) o10 g10
  replace H : Hold w w10' ([ints 2 (Value.slice p6 x0.length c6) (x0)] ++ ([itsE 93 (Value.slice p4 r0.length c4) (marksS (1) r0.length)] ++ ([ints 2 (Value.slice p3 x0.length c3) (marks (1) x0.length)] ++ ([itsE 93 (Value.slice p2 r0.length c2) (r0)] ++ ([ints 2 (Value.slice p1 x0.length c1) (x0)] ++ (([] : List It))))))) := by simpa only [List.append_assoc, List.nil_append] using h10
  clear h10 o10 g10
  go_wp2_with fail
  refine (heldSlots_yes _ _ _ _ _ (by have h := (Hold.rdE_ (E := 93) (t := marksS (1) r0.length) (ao := p4) (n := r0.length) (cap := c4) (L1 := [ints 2 (Value.slice p6 x0.length c6) (x0)] ++ (([] : List It))) (L2 := [ints 2 (Value.slice p3 x0.length c3) (marks (1) x0.length)] ++ ([itsE 93 (Value.slice p2 r0.length c2) (r0)] ++ ([ints 2 (Value.slice p1 x0.length c1) (x0)] ++ (([] : List It))))) (by simpa only [List.append_assoc, List.nil_append] using H)); rw [marksS_len] at h; exact h) (by omega) (by omega) (by omega)).mono ?_
  rintro e w11' ⟨rfl, b11⟩
  replace H := H.still b11
  clear b11
  go_wp2_with fail
  refine (toInt_any _ _ _ _ _ (hr0.below H.below) hbig0).mono ?_
  rintro e w12' m12
  obtain ⟨p12, c12, rfl, o12, -, b12⟩ := m12.get
  replace H : Hold w _ ([ints 2 (Value.slice p12 x0.length c12) (x0)] ++ ([ints 2 (Value.slice p6 x0.length c6) (x0)] ++ ([itsE 93 (Value.slice p4 r0.length c4) (marksS (1) r0.length)] ++ ([ints 2 (Value.slice p3 x0.length c3) (marks (1) x0.length)] ++ ([itsE 93 (Value.slice p2 r0.length c2) (r0)] ++ ([ints 2 (Value.slice p1 x0.length c1) (x0)] ++ (([] : List It)))))))) := H.makeI o12 b12
  clear o12 b12 m12
  go_wp2_with fail
  refine (readSlotsI_any _ _ _ _ _ (Hold.rdI_ (E := 2) (xs := x0) (ao := p12) (n := x0.length) (cap := c12) (L1 := ([] : List It)) (L2 := [ints 2 (Value.slice p6 x0.length c6) (x0)] ++ ([itsE 93 (Value.slice p4 r0.length c4) (marksS (1) r0.length)] ++ ([ints 2 (Value.slice p3 x0.length c3) (marks (1) x0.length)] ++ ([itsE 93 (Value.slice p2 r0.length c2) (r0)] ++ ([ints 2 (Value.slice p1 x0.length c1) (x0)] ++ (([] : List It))))))) (by simpa only [List.append_assoc, List.nil_append] using H)) hbig0 (Own.cap (Hold.getI_ (E := 2) (xs := x0) (v := Value.slice p12 x0.length c12) (L1 := ([] : List It)) (L2 := [ints 2 (Value.slice p6 x0.length c6) (x0)] ++ ([itsE 93 (Value.slice p4 r0.length c4) (marksS (1) r0.length)] ++ ([ints 2 (Value.slice p3 x0.length c3) (marks (1) x0.length)] ++ ([itsE 93 (Value.slice p2 r0.length c2) (r0)] ++ ([ints 2 (Value.slice p1 x0.length c1) (x0)] ++ (([] : List It))))))) (by simpa only [List.append_assoc, List.nil_append] using H))).1 (Own.cap (Hold.getI_ (E := 2) (xs := x0) (v := Value.slice p12 x0.length c12) (L1 := ([] : List It)) (L2 := [ints 2 (Value.slice p6 x0.length c6) (x0)] ++ ([itsE 93 (Value.slice p4 r0.length c4) (marksS (1) r0.length)] ++ ([ints 2 (Value.slice p3 x0.length c3) (marks (1) x0.length)] ++ ([itsE 93 (Value.slice p2 r0.length c2) (r0)] ++ ([ints 2 (Value.slice p1 x0.length c1) (x0)] ++ (([] : List It))))))) (by simpa only [List.append_assoc, List.nil_append] using H))).2 (fun a e => ((Hold.getI_ (E := 2) (xs := x0) (v := Value.slice p12 x0.length c12) (L1 := ([] : List It)) (L2 := [ints 2 (Value.slice p6 x0.length c6) (x0)] ++ ([itsE 93 (Value.slice p4 r0.length c4) (marksS (1) r0.length)] ++ ([ints 2 (Value.slice p3 x0.length c3) (marks (1) x0.length)] ++ ([itsE 93 (Value.slice p2 r0.length c2) (r0)] ++ ([ints 2 (Value.slice p1 x0.length c1) (x0)] ++ (([] : List It))))))) (by simpa only [List.append_assoc, List.nil_append] using H)).block _ (by rw [e]; rfl)).2)).mono ?_
  rintro e w13' m13
  rw [HF.out] at m13
  change MakesE3 93 _ r0 r1 r2 _ _ at m13
  obtain ⟨p13, c13, rfl, o13, -, b13⟩ := m13.get
  replace H : Hold w _ ([itsE 93 (Value.slice p13 r0.length c13) (r0)] ++ ([ints 2 (Value.slice p12 x0.length c12) (x0)] ++ ([ints 2 (Value.slice p6 x0.length c6) (x0)] ++ ([itsE 93 (Value.slice p4 r0.length c4) (marksS (1) r0.length)] ++ ([ints 2 (Value.slice p3 x0.length c3) (marks (1) x0.length)] ++ ([itsE 93 (Value.slice p2 r0.length c2) (r0)] ++ ([ints 2 (Value.slice p1 x0.length c1) (x0)] ++ (([] : List It))))))))) := H.makeE o13 b13
  clear o13 b13 m13
  go_wp2_with fail
  refine (eqSlots_yes _ _ _ _ _ _ _ (Hold.rdE_ (E := 93) (t := r0) (ao := p13) (n := r0.length) (cap := c13) (L1 := ([] : List It)) (L2 := [ints 2 (Value.slice p12 x0.length c12) (x0)] ++ ([ints 2 (Value.slice p6 x0.length c6) (x0)] ++ ([itsE 93 (Value.slice p4 r0.length c4) (marksS (1) r0.length)] ++ ([ints 2 (Value.slice p3 x0.length c3) (marks (1) x0.length)] ++ ([itsE 93 (Value.slice p2 r0.length c2) (r0)] ++ ([ints 2 (Value.slice p1 x0.length c1) (x0)] ++ (([] : List It)))))))) (by simpa only [List.append_assoc, List.nil_append] using H)) (Hold.rdE_ (E := 93) (t := r0) (ao := p2) (n := r0.length) (cap := c2) (L1 := [itsE 93 (Value.slice p13 r0.length c13) (r0)] ++ ([ints 2 (Value.slice p12 x0.length c12) (x0)] ++ ([ints 2 (Value.slice p6 x0.length c6) (x0)] ++ ([itsE 93 (Value.slice p4 r0.length c4) (marksS (1) r0.length)] ++ ([ints 2 (Value.slice p3 x0.length c3) (marks (1) x0.length)] ++ (([] : List It))))))) (L2 := [ints 2 (Value.slice p1 x0.length c1) (x0)] ++ (([] : List It))) (by simpa only [List.append_assoc, List.nil_append] using H)) (by omega) (OwnE.cap (Hold.getE_ (E := 93) (t := r0) (v := Value.slice p13 r0.length c13) (L1 := ([] : List It)) (L2 := [ints 2 (Value.slice p12 x0.length c12) (x0)] ++ ([ints 2 (Value.slice p6 x0.length c6) (x0)] ++ ([itsE 93 (Value.slice p4 r0.length c4) (marksS (1) r0.length)] ++ ([ints 2 (Value.slice p3 x0.length c3) (marks (1) x0.length)] ++ ([itsE 93 (Value.slice p2 r0.length c2) (r0)] ++ ([ints 2 (Value.slice p1 x0.length c1) (x0)] ++ (([] : List It)))))))) (by simpa only [List.append_assoc, List.nil_append] using H))).1 (OwnE.cap (Hold.getE_ (E := 93) (t := r0) (v := Value.slice p2 r0.length c2) (L1 := [itsE 93 (Value.slice p13 r0.length c13) (r0)] ++ ([ints 2 (Value.slice p12 x0.length c12) (x0)] ++ ([ints 2 (Value.slice p6 x0.length c6) (x0)] ++ ([itsE 93 (Value.slice p4 r0.length c4) (marksS (1) r0.length)] ++ ([ints 2 (Value.slice p3 x0.length c3) (marks (1) x0.length)] ++ (([] : List It))))))) (L2 := [ints 2 (Value.slice p1 x0.length c1) (x0)] ++ (([] : List It))) (by simpa only [List.append_assoc, List.nil_append] using H))).1).mono ?_
  rintro e w14' ⟨rfl, b14⟩
  replace H := H.still b14
  clear b14
  go_wp2_with fail
  refine (heldSlots_yes _ _ _ _ _ (by have h := (Hold.rdE_ (E := 93) (t := marksS (1) r0.length) (ao := p4) (n := r0.length) (cap := c4) (L1 := [itsE 93 (Value.slice p13 r0.length c13) (r0)] ++ ([ints 2 (Value.slice p12 x0.length c12) (x0)] ++ ([ints 2 (Value.slice p6 x0.length c6) (x0)] ++ (([] : List It))))) (L2 := [ints 2 (Value.slice p3 x0.length c3) (marks (1) x0.length)] ++ ([itsE 93 (Value.slice p2 r0.length c2) (r0)] ++ ([ints 2 (Value.slice p1 x0.length c1) (x0)] ++ (([] : List It))))) (by simpa only [List.append_assoc, List.nil_append] using H)); rw [marksS_len] at h; exact h) (by omega) (by omega) (by omega)).mono ?_
  rintro e w15' ⟨rfl, b15⟩
  replace H := H.still b15
  clear b15
  go_wp2_with fail
  go_ret
  exact ⟨rfl, H.below⟩


end Go.Proofs.Ytpedlofckbplmaa.fnExactReadSlotTable
