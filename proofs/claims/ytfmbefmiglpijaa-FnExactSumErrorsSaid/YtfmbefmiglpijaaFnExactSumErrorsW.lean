/-
  The walk of laws.FnExactSumErrors: at every input it returns true and writes nothing that was there.
-/
import Derived.Test.YtfmbefmiglpijaaRows
import Derived.Test.YtfmbefmiglpijaaC3d
import Derived.WalkKit
import Derived.ProofKit
import Derived.OpenShut
import Derived.ShutString
import Derived.ChangeOld
import Derived.Below
namespace Go.Proofs.Ytfmbefmiglpijaa.fnExactSumErrors
open Go.ChangeShapes Go.WideShapes Go.ChangeAt Go.RowKit
open Go.ChangeMaps (open_string shut_string)
set_option linter.unusedVariables false


/-- WHAT THE WALK IS TOLD OF A SLICE OF INTEGERS THAT CAME IN: it is nil; or it leads to a row of 'cap' cells, the numbers 'zs' (the first 'len' are its elements, the rest its spare room), each fitting its kind. -/
def IsRow (k : IntKind) (w : World) (a : Option Addr) (len cap : Nat) (zs : List Int) : Prop :=
  (a = none ∧ len = 0 ∧ cap = 0 ∧ zs = []) ∨
  ∃ x, a = some x ∧ len ≤ cap ∧ cap ≤ maxLen ∧ zs.length = cap ∧ (∀ i, i < zs.length → w.cell? (x.add i) = some (.int k (zs.getD i 0))) ∧ ∀ n ∈ zs, (Lit.int k n).wf = true

/-! ### STEP 1: THE WALK: the Go text returns true, AND WRITES NOTHING THAT WAS THERE: 'Below w.heap.size w w'' (Derived/Below.lean: '.refl', '.alloc', '.drew', '.setCell' at a new block, '.trans'). Open each 'IsRow' by 'rcases' AHEAD of 'go_enter'; part every test ahead of the walk. -/
theorem walk (a0 : Option Addr) (len0 cap0 : Nat) (z0 : List Int) (a1 : Option Addr) (len1 cap1 : Nat) (z1 : List Int) (w : World) (w0 : IsRow .i64 w a0 len0 cap0 z0) (w1 : IsRow .i64 w a1 len1 cap1 z1) :
    Calls Try.prog 13 #[.slice a0 len0 cap0, .slice a1 len1 cap1] w fun e w' => e = .returned (.bool true) ∧ Below w.heap.size w w' := by
  have hr0 := rd_of_row w0
  clear w0
  generalize List.take len0 z0 = x0 at hr0
  obtain rfl : x0.length = len0 := hr0.len
  have hr1 := rd_of_row w1
  clear w1
  generalize List.take len1 z1 = x1 at hr1
  obtain rfl : x1.length = len1 := hr1.len
  by_cases hbig0 : x0.length ≤ 1048576
  · skip
    by_cases hbig1 : x1.length ≤ 1048576
    · skip
      obtain ⟨r0, r1, hF⟩ : ∃ r0 r1, sumErrors x0 x1 = (r0, r1) := ⟨_, _, rfl⟩
      have hlen : r0.length ≤ 1048576 := by have h := sumErrors_len x0 x1; rw [hF] at h; exact Nat.le_trans h (by omega)
      have HF := Lib.hid hF; clear hF
      have H : Held 2 w w [] := Held.start
      go_enter Try.func13, Try.ntmps13
      go_wp2_with fail
      refine (toInt_any _ _ _ _ _ (hr0.below H.below) hbig0).mono ?_
      rintro e w1' m1
      obtain ⟨p1, c1, rfl, o1, -, b1⟩ := m1.get
      replace H := H.make o1 b1
      clear o1 b1 m1
      go_wp2_with fail
      refine (toInt_any _ _ _ _ _ (hr1.below H.below) hbig1).mono ?_
      rintro e w2' m2
      obtain ⟨p2, c2, rfl, o2, -, b2⟩ := m2.get
      replace H := H.make o2 b2
      clear o2 b2 m2
      go_wp2_with fail
      refine (sSumErrors_any _ _ _ _ _ _ _ _ _ (H.rd 1 rfl rfl) (H.rd 0 rfl rfl) hbig0 hbig1).mono ?_
      rintro e w3' m3
      rw [HF.out] at m3
      change Makes2 2 _ r0 r1 _ _ at m3
      obtain ⟨p3, c3, rfl, o3, -, b3⟩ := m3.get
      replace H := H.make o3 b3
      clear o3 b3 m3
      go_wp2_with fail
      refine (toInt_any _ _ _ _ _ (hr0.below H.below) hbig0).mono ?_
      rintro e w4' m4
      obtain ⟨p4, c4, rfl, o4, -, b4⟩ := m4.get
      replace H := H.make o4 b4
      clear o4 b4 m4
      go_wp2_with fail
      refine (toInt_any _ _ _ _ _ (hr1.below H.below) hbig1).mono ?_
      rintro e w5' m5
      obtain ⟨p5, c5, rfl, o5, -, b5⟩ := m5.get
      replace H := H.make o5 b5
      clear o5 b5 m5
      go_wp2_with fail
      refine (sumErrors_any _ _ _ _ _ _ _ _ _ (H.rd 1 rfl rfl) (H.rd 0 rfl rfl) hbig0 hbig1).mono ?_
      rintro e w6' m6
      rw [HF.out] at m6
      change Makes2 2 _ r0 r1 _ _ at m6
      obtain ⟨p6, c6, rfl, o6, -, b6⟩ := m6.get
      replace H := H.make o6 b6
      clear o6 b6 m6
      go_wp2_with fail
      refine (eq_yes _ _ _ _ _ _ _ _ (H.rd 0 rfl rfl) (H.rd 3 rfl rfl) (by omega)).mono ?_
      rintro e w7' ⟨rfl, b7⟩
      replace H := H.still b7
      clear b7
      go_wp2_with fail
      refine (toInt_any _ _ _ _ _ (hr0.below H.below) hbig0).mono ?_
      rintro e w8' m8
      obtain ⟨p8, c8, rfl, o8, -, b8⟩ := m8.get
      replace H := H.make o8 b8
      clear o8 b8 m8
      go_wp2_with fail
      refine (eq_yes _ _ _ _ _ _ _ _ (H.rd 3 rfl rfl) (H.rd 0 rfl rfl) (by omega)).mono ?_
      rintro e w9' ⟨rfl, b9⟩
      replace H := H.still b9
      clear b9
      go_wp2_with fail
      refine (toInt_any _ _ _ _ _ (hr1.below H.below) hbig1).mono ?_
      rintro e w10' m10
      obtain ⟨p10, c10, rfl, o10, -, b10⟩ := m10.get
      replace H := H.make o10 b10
      clear o10 b10 m10
      go_wp2_with fail
      refine (eq_yes _ _ _ _ _ _ _ _ (H.rd 3 rfl rfl) (H.rd 0 rfl rfl) (by omega)).mono ?_
      rintro e w11' ⟨rfl, b11⟩
      replace H := H.still b11
      clear b11
      go_wp2_with fail
      refine (mark_own _ _ _ _ _ _ _ rfl (H.get 4 rfl) (by omega) (by omega) (by omega)).mono ?_
      rintro e w12' ⟨rfl, o12, g12⟩
      replace H := H.mark [(Value.slice p10 x1.length c10, x1), (Value.slice p8 x0.length c8, x0), (Value.slice p6 r0.length c6, r0), (Value.slice p5 x1.length c5, x1)] o12 g12
      clear o12 g12
      go_wp2_with fail
      refine (mark_own _ _ _ _ _ _ _ rfl (H.get 3 rfl) (by omega) (by omega) (by omega)).mono ?_
      rintro e w13' ⟨rfl, o13, g13⟩
      replace H := H.mark [(Value.slice p10 x1.length c10, x1), (Value.slice p8 x0.length c8, x0), (Value.slice p6 r0.length c6, r0)] o13 g13
      clear o13 g13
      go_wp2_with fail
      refine (eq_yes _ _ _ _ _ _ _ _ (H.rd 2 rfl rfl) (H.rd 5 rfl rfl) (by omega)).mono ?_
      rintro e w14' ⟨rfl, b14⟩
      replace H := H.still b14
      clear b14
      go_wp2_with fail
      refine (mark_own _ _ _ _ _ _ _ rfl (H.get 2 rfl) (by omega) (by omega) (by omega)).mono ?_
      rintro e w15' ⟨rfl, o15, g15⟩
      replace H := H.mark [(Value.slice p10 x1.length c10, x1), (Value.slice p8 x0.length c8, x0)] o15 g15
      clear o15 g15
      go_wp2_with fail
      refine (held_yes _ _ _ _ _ (H.rd 2 rfl (marks_len _ _)) (by omega) (by omega) (by omega)).mono ?_
      rintro e w' ⟨rfl, rfl⟩
      go_wp2_with fail
      refine (toInt_any _ _ _ _ _ (hr0.below H.below) hbig0).mono ?_
      rintro e w16' m16
      obtain ⟨p16, c16, rfl, o16, -, b16⟩ := m16.get
      replace H := H.make o16 b16
      clear o16 b16 m16
      go_wp2_with fail
      refine (toInt_any _ _ _ _ _ (hr1.below H.below) hbig1).mono ?_
      rintro e w17' m17
      obtain ⟨p17, c17, rfl, o17, -, b17⟩ := m17.get
      replace H := H.make o17 b17
      clear o17 b17 m17
      go_wp2_with fail
      refine (sumErrors_any _ _ _ _ _ _ _ _ _ (H.rd 1 rfl rfl) (H.rd 0 rfl rfl) hbig0 hbig1).mono ?_
      rintro e w18' m18
      rw [HF.out] at m18
      change Makes2 2 _ r0 r1 _ _ at m18
      obtain ⟨p18, c18, rfl, o18, -, b18⟩ := m18.get
      replace H := H.make o18 b18
      clear o18 b18 m18
      go_wp2_with fail
      refine (eq_yes _ _ _ _ _ _ _ _ (H.rd 0 rfl rfl) (H.rd 8 rfl rfl) (by omega)).mono ?_
      rintro e w19' ⟨rfl, b19⟩
      replace H := H.still b19
      clear b19
      go_wp2_with fail
      refine (held_yes _ _ _ _ _ (H.rd 5 rfl (marks_len _ _)) (by omega) (by omega) (by omega)).mono ?_
      rintro e w' ⟨rfl, rfl⟩
      go_wp2_with fail
      go_ret
      exact ⟨rfl, H.below⟩
    · go_enter Try.func13, Try.ntmps13
      go_wp2
      go_ret
      exact ⟨rfl, Below.refl _ _⟩
  · go_enter Try.func13, Try.ntmps13
    go_wp2
    go_ret
    exact ⟨rfl, Below.refl _ _⟩


end Go.Proofs.Ytfmbefmiglpijaa.fnExactSumErrors
