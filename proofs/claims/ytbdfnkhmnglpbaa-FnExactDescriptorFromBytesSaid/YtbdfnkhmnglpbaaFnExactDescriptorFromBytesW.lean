/-
  The walk of laws.FnExactDescriptorFromBytes: at every input it returns true and writes nothing that was there.
-/
import Derived.Test.YtbdfnkhmnglpbaaRows
import Derived.Test.YtbdfnkhmnglpbaaEigB
import Derived.Test.YtbdfnkhmnglpbaaBase
import Derived.WalkKit
import Derived.ProofKit
import Derived.OpenShut
import Derived.ShutString
import Derived.ChangeOld
import Derived.Below
namespace Go.Proofs.Ytbdfnkhmnglpbaa.fnExactDescriptorFromBytes
open Go.ChangeShapes Go.WideShapes Go.ChangeAt Go.RowKit
open Go.ChangeMaps (open_string shut_string)
set_option linter.unusedVariables false


/-- WHAT THE WALK IS TOLD OF A SLICE OF INTEGERS THAT CAME IN: it is nil; or it leads to a row of 'cap' cells, the numbers 'zs' (the first 'len' are its elements, the rest its spare room), each fitting its kind. -/
def IsRow (k : IntKind) (w : World) (a : Option Addr) (len cap : Nat) (zs : List Int) : Prop :=
  (a = none ∧ len = 0 ∧ cap = 0 ∧ zs = []) ∨
  ∃ x, a = some x ∧ len ≤ cap ∧ cap ≤ maxLen ∧ zs.length = cap ∧ (∀ i, i < zs.length → w.cell? (x.add i) = some (.int k (zs.getD i 0))) ∧ ∀ n ∈ zs, (Lit.int k n).wf = true

/-! ### STEP 1: THE WALK: the Go text returns true, AND WRITES NOTHING THAT WAS THERE: 'Below w.heap.size w w'' (Derived/Below.lean: '.refl', '.alloc', '.drew', '.setCell' at a new block, '.trans'). Open each 'IsRow' by 'rcases' AHEAD of 'go_enter'; part every test ahead of the walk. -/
theorem walk (a0 : Option Addr) (len0 cap0 : Nat) (z0 : List Int) (w : World) (w0 : IsRow .i64 w a0 len0 cap0 z0) :
    Calls Try.prog 16 #[.slice a0 len0 cap0] w fun e w' => e = .returned (.bool true) ∧ Below w.heap.size w w' := by
  have hr0 := rd_of_row w0
  clear w0
  generalize List.take len0 z0 = x0 at hr0
  obtain rfl : x0.length = len0 := hr0.len
  by_cases hbig0 : x0.length ≤ 1048576
  · obtain ⟨⟨q0, q1, q2, q3, q4⟩, r1, hF⟩ : ∃ f z, descFrom x0 = (f, z) := ⟨_, _, rfl⟩
    have HF := Lib.hid hF; clear hF
    have H : Held 2 w w [] := Held.start
    go_enter Try.func16, Try.ntmps16
    go_wp2_with fail
    refine (toInt_any _ _ _ _ _ (hr0.below H.below) hbig0).mono ?_
    rintro e w1 m1
    obtain ⟨p1, c1, rfl, o1, -, b1⟩ := m1.get
    replace H := H.make o1 b1
    clear o1 b1 m1
    go_wp2_with fail
    refine (sDescFromBytes_any _ _ _ _ _ (H.rd 0 rfl rfl) (by omega)).mono ?_
    rintro e w2 ⟨rfl, b2⟩
    rw [HF.out]
    simp only
    have H2 := Lib.hid ((H.still b2).still ((Below.refl _ _).alloc (Nat.le_refl _) (.cells #[.int .i64 q0, .int .i64 q1, .int .i64 q2, .int .i64 q3, .bool q4] 49)))
    have X := Lib.hid (DescAt.new (T := 49) (n := q0) (a := q1) (z := q2) (u := q3) (c := q4) w2)
    clear b2 H
    go_wp2_with fail
    obtain ⟨D, hD⟩ : ∃ D, D = w2.heap.size := ⟨_, rfl⟩
    rw [← hD] at X ⊢
    clear hD
    generalize w2.alloc (.cells #[.int .i64 q0, .int .i64 q1, .int .i64 q2, .int .i64 q3, .bool q4] 49) = w3 at H2 X ⊢
    refine (toInt_any _ _ _ _ _ (hr0.below H2.out.below) hbig0).mono ?_
    rintro e w4 m4
    obtain ⟨p4, c4, rfl, o4, -, b4⟩ := m4.get
    have H4 := Lib.hid (H2.out.make o4 b4)
    have X4 := Lib.hid (X.out.below b4 X.out.lt)
    clear o4 b4 m4 H2 X
    go_wp2_with fail
    refine (descFromBytes_any _ _ _ _ _ (H4.out.rd 0 rfl rfl) (by omega)).mono ?_
    rintro e w5 ⟨rfl, b5⟩
    rw [HF.out]
    simp only
    have X5 := X4.out.below b5 X4.out.lt
    have hlt : D < w5.heap.size := X5.lt
    have H5 := Lib.hid ((H4.out.still b5).still ((Below.refl _ _).alloc (Nat.le_refl _) (.cells #[.int .i64 q0, .int .i64 q1, .int .i64 q2, .int .i64 q3, .bool q4] 49)))
    have e0 := X5.c0
    have e1 := X5.c1
    have e2 := X5.c2
    have e3 := X5.c3
    have e4 := X5.c4
    clear X5 b5 H4 X4
    go_wp2_with fail
    clear e0 e1 e2 e3 e4 hlt
    refine (eqDescriptor_any _ _ _ _ _ _).mono ?_
    rintro e w6 ⟨rfl, b6⟩
    have H6 := Lib.hid (H5.out.still b6)
    have n1 : (r1 != r1) = false := by simp
    clear b6 H5
    go_wp2_with fail
    refine (toInt_any _ _ _ _ _ (hr0.below H6.out.below) hbig0).mono ?_
    rintro e w7 m7
    obtain ⟨p7, c7, rfl, o7, -, b7⟩ := m7.get
    have H7 := Lib.hid (H6.out.make o7 b7)
    clear o7 b7 m7 H6
    go_wp2_with fail
    refine (eq_yes _ _ _ _ _ _ _ _ (H7.out.rd 1 rfl rfl) (H7.out.rd 0 rfl rfl) (by omega)).mono ?_
    rintro e w8 ⟨rfl, b8⟩
    have H8 := Lib.hid (H7.out.still b8)
    clear b8 H7
    go_wp2_with fail
    go_ret
    exact ⟨rfl, H8.out.below⟩
  · go_enter Try.func16, Try.ntmps16
    go_wp2
    go_ret
    exact ⟨rfl, Below.refl _ _⟩


end Go.Proofs.Ytbdfnkhmnglpbaa.fnExactDescriptorFromBytes
