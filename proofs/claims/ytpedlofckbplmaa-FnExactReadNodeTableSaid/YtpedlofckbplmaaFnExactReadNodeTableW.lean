/-
  The walk of laws.FnExactReadNodeTable: at every input it returns true and writes nothing that was there.
-/
import Derived.Test.YtpedlofckbplmaaRows
import Derived.Test.YtpedlofckbplmaaNI
import Derived.Test.YtpedlofckbplmaaL3
import Derived.WalkKit
import Derived.ProofKit
import Derived.OpenShut
import Derived.ShutString
import Derived.ChangeOld
import Derived.Below
namespace Go.Proofs.Ytpedlofckbplmaa.fnExactReadNodeTable
open Go.ChangeShapes Go.WideShapes Go.ChangeAt Go.RowKit
open Go.ChangeMaps (open_string shut_string)
set_option linter.unusedVariables false


/-- WHAT THE WALK IS TOLD OF A SLICE OF INTEGERS THAT CAME IN: it is nil; or it leads to a row of 'cap' cells, the numbers 'zs' (the first 'len' are its elements, the rest its spare room), each fitting its kind. -/
def IsRow (k : IntKind) (w : World) (a : Option Addr) (len cap : Nat) (zs : List Int) : Prop :=
  (a = none ∧ len = 0 ∧ cap = 0 ∧ zs = []) ∨
  ∃ x, a = some x ∧ len ≤ cap ∧ cap ≤ maxLen ∧ zs.length = cap ∧ (∀ i, i < zs.length → w.cell? (x.add i) = some (.int k (zs.getD i 0))) ∧ ∀ n ∈ zs, (Lit.int k n).wf = true

/-! ### STEP 1: THE WALK: the Go text returns true, AND WRITES NOTHING THAT WAS THERE: 'Below w.heap.size w w'' (Derived/Below.lean: '.refl', '.alloc', '.drew', '.setCell' at a new block, '.trans'). Open each 'IsRow' by 'rcases' AHEAD of 'go_enter'; part every test ahead of the walk. -/
set_option maxRecDepth 100000 in set_option maxHeartbeats 2000000 in
theorem walk (a0 : Option Addr) (len0 cap0 : Nat) (z0 : List Int) (w : World) (w0 : IsRow .i64 w a0 len0 cap0 z0) :
    Calls Try.prog 4 #[.slice a0 len0 cap0] w fun e w' => e = .returned (.bool true) ∧ Below w.heap.size w w' := by
  have hr0 := rd_of_row w0
  clear w0
  generalize List.take len0 z0 = x0 at hr0
  obtain rfl : x0.length = len0 := hr0.len
  by_cases hbig0 : x0.length ≤ 1048576
  rotate_left
  · go_enter Try.func4, Try.ntmps4
    go_wp2
    go_ret
    exact ⟨rfl, Below.refl _ _⟩
  obtain ⟨r0, r1, r2, hF⟩ : ∃ r0 r1 r2, readNodeTable x0 = (r0, r1, r2) := ⟨_, _, _, rfl⟩
  have hlen : r0.length ≤ 1048576 := by have h := readNodeTable_len x0; rw [hF] at h; exact h
  have HF := Lib.hid hF; clear hF
  have H : Hold w w [] := Hold.start
  go_enter Try.func4, Try.ntmps4
  go_wp2_with fail
  refine (toInt_any _ _ _ _ _ (hr0.below H.below) hbig0).mono ?_
  rintro e w1' m1
  obtain ⟨p1, c1, rfl, o1, -, b1⟩ := m1.get
  replace H := H.makeI o1 b1
  clear o1 b1 m1
  go_wp2_with fail
  refine (sReadNodeTable_any _ _ _ _ _ (H.rdI 0 rfl) hbig0 (Own.cap (H.getI 0 rfl)).1 (Own.cap (H.getI 0 rfl)).2).mono ?_
  rintro e w2' m2
  rw [HF.out] at m2
  change MakesN3 59 _ r0 r1 r2 _ _ at m2
  obtain ⟨p2, c2, rfl, o2, -, b2⟩ := m2.get
  replace H := H.makeN o2 b2
  clear o2 b2 m2
  go_wp2_with fail
  refine (toInt_any _ _ _ _ _ (hr0.below H.below) hbig0).mono ?_
  rintro e w3' m3
  obtain ⟨p3, c3, rfl, o3, -, b3⟩ := m3.get
  replace H := H.makeI o3 b3
  clear o3 b3 m3
  go_wp2_with fail
  refine (readNodeTable_any _ _ _ _ _ (H.rdI 0 rfl) hbig0 (Own.cap (H.getI 0 rfl)).1 (Own.cap (H.getI 0 rfl)).2 (fun a e => by subst e; exact ((H.getI 0 rfl).block _ rfl).2)).mono ?_
  rintro e w4' m4
  rw [HF.out] at m4
  change MakesN3 59 _ r0 r1 r2 _ _ at m4
  obtain ⟨p4, c4, rfl, o4, -, b4⟩ := m4.get
  replace H := H.makeN o4 b4
  clear o4 b4 m4
  go_wp2_with fail
  refine (eqNodes_yes _ _ _ _ _ _ _ (H.rdN 0 rfl) (H.rdN 2 rfl) (by omega) (OwnN.cap (H.getN 0 rfl)).1 (OwnN.cap (H.getN 2 rfl)).1).mono ?_
  rintro e w5' ⟨rfl, b5⟩
  replace H := H.still b5
  clear b5
  go_wp2_with fail
  refine (toInt_any _ _ _ _ _ (hr0.below H.below) hbig0).mono ?_
  rintro e w6' m6
  obtain ⟨p6, c6, rfl, o6, -, b6⟩ := m6.get
  replace H := H.makeI o6 b6
  clear o6 b6 m6
  go_wp2_with fail
  refine (eq_yes _ _ _ _ _ _ _ _ (H.rdI 2 rfl) (H.rdI 0 rfl) (by omega)).mono ?_
  rintro e w7' ⟨rfl, b7⟩
  replace H := H.still b7
  clear b7
  go_wp2_with fail
  refine (mark_own _ _ _ _ _ _ _ rfl (H.getI 2 rfl) (by omega) (by omega) (by omega)).mono ?_
  rintro e w8' ⟨rfl, o8, g8⟩
  replace H := H.mark (q := ints 2 (Value.slice p3 x0.length c3) (marks (1) x0.length)) [ints 2 (Value.slice p6 x0.length c6) x0, nds 59 (Value.slice p4 r0.length c4) r0] rfl o8 g8
  clear o8 g8
  go_wp2_with fail
  refine (eqNodes_yes _ _ _ _ _ _ _ (H.rdN 1 rfl) (H.rdN 3 rfl) (by omega) (OwnN.cap (H.getN 1 rfl)).1 (OwnN.cap (H.getN 3 rfl)).1).mono ?_
  rintro e w9' ⟨rfl, b9⟩
  replace H := H.still b9
  clear b9
  go_wp2_with fail
  refine (markNodes_any _ _ _ _ _ _ _ rfl (H.getN 1 rfl) (by omega) (by omega) (by omega)).mono ?_
  rintro e w10' ⟨rfl, o10, g10⟩
  replace H := H.mark (q := nds 59 (Value.slice p4 r0.length c4) (marksN (1) r0.length)) [ints 2 (Value.slice p6 x0.length c6) x0] rfl o10 g10
  clear o10 g10
  go_wp2_with fail
  have hh11 := H.rdN 1 rfl
  rw [marksN_len] at hh11
  refine (heldNodes_yes _ _ _ _ _ hh11 (by omega) (by omega) (by omega)).mono ?_
  rintro e w11' ⟨rfl, b11⟩
  replace H := H.still b11
  clear b11 hh11
  go_wp2_with fail
  refine (toInt_any _ _ _ _ _ (hr0.below H.below) hbig0).mono ?_
  rintro e w12' m12
  obtain ⟨p12, c12, rfl, o12, -, b12⟩ := m12.get
  replace H := H.makeI o12 b12
  clear o12 b12 m12
  go_wp2_with fail
  refine (readNodeTable_any _ _ _ _ _ (H.rdI 0 rfl) hbig0 (Own.cap (H.getI 0 rfl)).1 (Own.cap (H.getI 0 rfl)).2 (fun a e => by subst e; exact ((H.getI 0 rfl).block _ rfl).2)).mono ?_
  rintro e w13' m13
  rw [HF.out] at m13
  change MakesN3 59 _ r0 r1 r2 _ _ at m13
  obtain ⟨p13, c13, rfl, o13, -, b13⟩ := m13.get
  replace H := H.makeN o13 b13
  clear o13 b13 m13
  go_wp2_with fail
  refine (eqNodes_yes _ _ _ _ _ _ _ (H.rdN 0 rfl) (H.rdN 5 rfl) (by omega) (OwnN.cap (H.getN 0 rfl)).1 (OwnN.cap (H.getN 5 rfl)).1).mono ?_
  rintro e w14' ⟨rfl, b14⟩
  replace H := H.still b14
  clear b14
  go_wp2_with fail
  have hh15 := H.rdN 3 rfl
  rw [marksN_len] at hh15
  refine (heldNodes_yes _ _ _ _ _ hh15 (by omega) (by omega) (by omega)).mono ?_
  rintro e w15' ⟨rfl, b15⟩
  replace H := H.still b15
  clear b15 hh15
  go_wp2_with fail
  go_ret
  exact ⟨rfl, H.below⟩


end Go.Proofs.Ytpedlofckbplmaa.fnExactReadNodeTable
