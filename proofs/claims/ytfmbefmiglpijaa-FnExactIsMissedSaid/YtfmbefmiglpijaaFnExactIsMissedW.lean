/-
  The walk of laws.FnExactIsMissed: at every input it returns true and writes nothing that was there.
-/
import Derived.Test.YtfmbefmiglpijaaRows
import Derived.Test.YtfmbefmiglpijaaC3a
import Derived.WalkKit
import Derived.ProofKit
import Derived.OpenShut
import Derived.ShutString
import Derived.ChangeOld
import Derived.Below
import Derived.Lib.SmallJoins
namespace Go.Proofs.Ytfmbefmiglpijaa.fnExactIsMissed
open Go.ChangeShapes Go.WideShapes Go.ChangeAt Go.RowKit Go.Joins
open Go.ChangeMaps (open_string shut_string)
set_option linter.unusedVariables false
/-- A slice of integers that came in: nil, or a row of 'cap' cells that hold the numbers 'zs', each fitting its kind. -/
def IsRow (k : IntKind) (w : World) (a : Option Addr) (len cap : Nat) (zs : List Int) : Prop :=
  (a = none ∧ len = 0 ∧ cap = 0 ∧ zs = []) ∨
  ∃ x, a = some x ∧ len ≤ cap ∧ cap ≤ maxLen ∧ zs.length = cap ∧ (∀ i, i < zs.length → w.cell? (x.add i) = some (.int k (zs.getD i 0))) ∧ ∀ n ∈ zs, (Lit.int k n).wf = true

theorem walk (s0_0 : Int) (s0_1 : Int) (a1 : Option Addr) (len1 cap1 : Nat) (z1 : List Int) (w : World) (w0_0 : (Lit.int .i64 s0_0).wf = true) (w0_1 : (Lit.int .i64 s0_1).wf = true) (w1 : IsRow .i64 w a1 len1 cap1 z1) :
    Calls Try.prog 7 #[.agg #[.int .i64 s0_0, .int .i64 s0_1], .slice a1 len1 cap1] w fun e w' => e = .returned (.bool true) ∧ Below w.heap.size w w' := by
  have hr1 := rd_of_row w1
  clear w1
  generalize List.take len1 z1 = x1 at hr1
  obtain rfl : x1.length = len1 := hr1.len
  by_cases hbig1 : x1.length ≤ 1048576
  · skip
    obtain ⟨r0, hF⟩ : ∃ r0, isMissed s0_0 s0_1 x1 = r0 := ⟨_, rfl⟩
    have HF := Lib.hid hF; clear hF
    have hB0 : Below w.heap.size w (w.alloc (.cells #[.int .i64 s0_0, .int .i64 s0_1] 52)) := (Below.refl _ _).alloc (Nat.le_refl _) _
    have HB0 := Lib.hid hB0; clear hB0
    replace hr1 := hr1.below HB0.out
    have H : Held 2 (w.alloc (.cells #[.int .i64 s0_0, .int .i64 s0_1] 52)) (w.alloc (.cells #[.int .i64 s0_0, .int .i64 s0_1] 52)) [] := Held.start
    go_enter Try.func7, Try.ntmps7
    go_wp2_with fail
    refine (toCrc_any _ _ _).mono ?_
    rintro e w1' ⟨rfl, b1⟩
    replace H := H.still b1
    clear b1
    go_wp2_with fail
    refine (toInt_any _ _ _ _ _ (hr1.below H.below) hbig1).mono ?_
    rintro e w2' m2
    obtain ⟨p2, c2, rfl, o2, -, b2⟩ := m2.get
    replace H := H.make o2 b2
    clear o2 b2 m2
    go_wp2_with fail
    refine (sIsMissed_any _ _ _ _ _ _ _ (H.rd 0 rfl rfl) hbig1).mono ?_
    rintro e w3' ⟨rfl, b3⟩
    replace H := H.still b3
    clear b3
    rw [HF.out]
    go_wp2_with fail
    refine (toInt_any _ _ _ _ _ (hr1.below H.below) hbig1).mono ?_
    rintro e w4' m4
    obtain ⟨p4, c4, rfl, o4, -, b4⟩ := m4.get
    replace H := H.make o4 b4
    clear o4 b4 m4
    obtain ⟨hc0, hc1⟩ := crc_kept H.below
    go_wp2_with fail
    clear hc0 hc1
    refine (toCrc_any _ _ _).mono ?_
    rintro e w5' ⟨rfl, b5⟩
    replace H := H.still b5
    clear b5
    go_wp2_with fail
    refine (isMissed_any _ _ _ _ _ _ _ (H.rd 0 rfl rfl) hbig1).mono ?_
    rintro e w6' ⟨rfl, b6⟩
    replace H := H.still b6
    clear b6
    rw [HF.out]
    go_wp2_with fail
    refine (toInt_any _ _ _ _ _ (hr1.below H.below) hbig1).mono ?_
    rintro e w7' m7
    obtain ⟨p7, c7, rfl, o7, -, b7⟩ := m7.get
    replace H := H.make o7 b7
    clear o7 b7 m7
    go_wp2_with fail
    refine (eq_yes _ _ _ _ _ _ _ _ (H.rd 1 rfl rfl) (H.rd 0 rfl rfl) (by omega)).mono ?_
    rintro e w8' ⟨rfl, b8⟩
    replace H := H.still b8
    clear b8
    go_wp2_with fail
    go_ret
    exact ⟨rfl, below_two HB0.out H.below⟩
  · go_enter Try.func7, Try.ntmps7
    go_wp2
    go_ret
    exact ⟨rfl, (Below.refl _ _).alloc (Nat.le_refl _) _⟩
end Go.Proofs.Ytfmbefmiglpijaa.fnExactIsMissed
