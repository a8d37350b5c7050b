/-
  The walk of laws.FnExactAppendCrc: at every input it returns true and writes nothing that was there.
-/
import Derived.Test.YtadmpfmpmpdbeaaRows
import Derived.Test.YtadmpfmpmpdbeaaC2l
import Derived.WalkKit
import Derived.ProofKit
import Derived.OpenShut
import Derived.ShutString
import Derived.ChangeOld
import Derived.Below
import Derived.Lib.SmallJoins
namespace Go.Proofs.Ytadmpfmpmpdbeaa.fnExactAppendCrc
open Go.ChangeShapes Go.WideShapes Go.ChangeAt Go.RowKit Go.Joins
open Go.ChangeMaps (open_string shut_string)
set_option linter.unusedVariables false
/-- A slice of integers that came in: nil, or a row of 'cap' cells that hold the numbers 'zs', each fitting its kind. -/
def IsRow (k : IntKind) (w : World) (a : Option Addr) (len cap : Nat) (zs : List Int) : Prop :=
  (a = none ∧ len = 0 ∧ cap = 0 ∧ zs = []) ∨
  ∃ x, a = some x ∧ len ≤ cap ∧ cap ≤ maxLen ∧ zs.length = cap ∧ (∀ i, i < zs.length → w.cell? (x.add i) = some (.int k (zs.getD i 0))) ∧ ∀ n ∈ zs, (Lit.int k n).wf = true

theorem walk (s0_0 : Int) (s0_1 : Int) (a1 : Int) (a2 : Option Addr) (len2 cap2 : Nat) (z2 : List Int) (w : World) (w0_0 : (Lit.int .i64 s0_0).wf = true) (w0_1 : (Lit.int .i64 s0_1).wf = true) (w1 : (Lit.int .i64 a1).wf = true) (w2 : IsRow .i64 w a2 len2 cap2 z2) :
    Calls Try.prog 13 #[.agg #[.int .i64 s0_0, .int .i64 s0_1], .int .i64 a1, .slice a2 len2 cap2] w fun e w' => e = .returned (.bool true) ∧ Below w.heap.size w w' := by
  have hr2 := rd_of_row w2
  clear w2
  generalize List.take len2 z2 = x2 at hr2
  obtain rfl : x2.length = len2 := hr2.len
  by_cases hbig2 : x2.length ≤ 1048576
  · skip
    obtain ⟨r0, r1, hF⟩ : ∃ r0 r1, appendCrc s0_0 s0_1 a1 x2 = (r0, r1) := ⟨_, _, rfl⟩
    have hlen : r0.length ≤ 1048576 := by have h := appendCrc_len s0_0 s0_1 a1 x2; rw [hF] at h; exact Nat.le_trans h (by omega)
    have HF := Lib.hid hF; clear hF
    have hB0 : Below w.heap.size w (w.alloc (.cells #[.int .i64 s0_0, .int .i64 s0_1] 46)) := (Below.refl _ _).alloc (Nat.le_refl _) _
    have HB0 := Lib.hid hB0; clear hB0
    replace hr2 := hr2.below HB0.out
    have H : Held 2 (w.alloc (.cells #[.int .i64 s0_0, .int .i64 s0_1] 46)) (w.alloc (.cells #[.int .i64 s0_0, .int .i64 s0_1] 46)) [] := Held.start
    go_enter Try.func13, Try.ntmps13
    go_wp2_with fail
    refine (toCrc_any _ _ _).mono ?_
    rintro e w1' ⟨rfl, b1⟩
    replace H := H.still b1
    clear b1
    go_wp2_with fail
    refine (toInt_any _ _ _ _ _ (hr2.below H.below) hbig2).mono ?_
    rintro e w2' m2
    obtain ⟨p2, c2, rfl, o2, -, b2⟩ := m2.get
    replace H := H.make o2 b2
    clear o2 b2 m2
    go_wp2_with fail
    refine (sAppendCrc_any _ _ _ _ _ _ _ (H.rd 0 rfl rfl) hbig2).mono ?_
    rintro e w3' m3
    rw [HF.out] at m3
    change Makes2 2 _ r0 r1 _ _ at m3
    obtain ⟨p3, c3, rfl, o3, -, b3⟩ := m3.get
    replace H := H.make o3 b3
    clear o3 b3 m3
    go_wp2_with fail
    refine (toInt_any _ _ _ _ _ (hr2.below H.below) hbig2).mono ?_
    rintro e w4' m4
    obtain ⟨p4, c4, rfl, o4, -, b4⟩ := m4.get
    replace H := H.make o4 b4
    clear o4 b4 m4
    obtain ⟨hc0, hc1⟩ := crc_kept H.below
    go_wp2_with fail
    clear hc0 hc1
    refine (toCrc_any _ _ _).mono ?_
    rintro e w5' ⟨rfl, b5⟩
    replace H := H.still b5
    clear b5
    go_wp2_with fail
    refine (appendCrc_any _ _ _ _ _ _ _ (H.rd 0 rfl rfl) hbig2).mono ?_
    rintro e w6' m6
    rw [HF.out] at m6
    change Makes2 2 _ r0 r1 _ _ at m6
    obtain ⟨p6, c6, rfl, o6, -, b6⟩ := m6.get
    replace H := H.make o6 b6
    clear o6 b6 m6
    go_wp2_with fail
    refine (eq_yes _ _ _ _ _ _ _ _ (H.rd 0 rfl rfl) (H.rd 2 rfl rfl) (by omega)).mono ?_
    rintro e w7' ⟨rfl, b7⟩
    replace H := H.still b7
    clear b7
    go_wp2_with fail
    refine (toInt_any _ _ _ _ _ (hr2.below H.below) hbig2).mono ?_
    rintro e w8' m8
    obtain ⟨p8, c8, rfl, o8, -, b8⟩ := m8.get
    replace H := H.make o8 b8
    clear o8 b8 m8
    go_wp2_with fail
    refine (eq_yes _ _ _ _ _ _ _ _ (H.rd 2 rfl rfl) (H.rd 0 rfl rfl) (by omega)).mono ?_
    rintro e w9' ⟨rfl, b9⟩
    replace H := H.still b9
    clear b9
    go_wp2_with fail
    refine (mark_own _ _ _ _ _ _ _ rfl (H.get 2 rfl) (by omega) (by omega) (by omega)).mono ?_
    rintro e w10' ⟨rfl, o10, g10⟩
    replace H := H.mark [(Value.slice p8 x2.length c8, x2), (Value.slice p6 r0.length c6, r0)] o10 g10
    clear o10 g10
    go_wp2_with fail
    refine (eq_yes _ _ _ _ _ _ _ _ (H.rd 1 rfl rfl) (H.rd 3 rfl rfl) (by omega)).mono ?_
    rintro e w11' ⟨rfl, b11⟩
    replace H := H.still b11
    clear b11
    go_wp2_with fail
    refine (mark_own _ _ _ _ _ _ _ rfl (H.get 1 rfl) (by omega) (by omega) (by omega)).mono ?_
    rintro e w12' ⟨rfl, o12, g12⟩
    replace H := H.mark [(Value.slice p8 x2.length c8, x2)] o12 g12
    clear o12 g12
    go_wp2_with fail
    refine (held_yes _ _ _ _ _ (H.rd 1 rfl (marks_len _ _)) (by omega) (by omega) (by omega)).mono ?_
    rintro e w' ⟨rfl, rfl⟩
    obtain ⟨hc0, hc1⟩ := crc_kept H.below
    go_wp2_with fail
    clear hc0 hc1
    refine (toCrc_any _ _ _).mono ?_
    rintro e w13' ⟨rfl, b13⟩
    replace H := H.still b13
    clear b13
    go_wp2_with fail
    refine (toInt_any _ _ _ _ _ (hr2.below H.below) hbig2).mono ?_
    rintro e w14' m14
    obtain ⟨p14, c14, rfl, o14, -, b14⟩ := m14.get
    replace H := H.make o14 b14
    clear o14 b14 m14
    go_wp2_with fail
    refine (appendCrc_any _ _ _ _ _ _ _ (H.rd 0 rfl rfl) hbig2).mono ?_
    rintro e w15' m15
    rw [HF.out] at m15
    change Makes2 2 _ r0 r1 _ _ at m15
    obtain ⟨p15, c15, rfl, o15, -, b15⟩ := m15.get
    replace H := H.make o15 b15
    clear o15 b15 m15
    go_wp2_with fail
    refine (eq_yes _ _ _ _ _ _ _ _ (H.rd 0 rfl rfl) (H.rd 5 rfl rfl) (by omega)).mono ?_
    rintro e w16' ⟨rfl, b16⟩
    replace H := H.still b16
    clear b16
    go_wp2_with fail
    refine (held_yes _ _ _ _ _ (H.rd 3 rfl (marks_len _ _)) (by omega) (by omega) (by omega)).mono ?_
    rintro e w' ⟨rfl, rfl⟩
    go_wp2_with fail
    go_ret
    exact ⟨rfl, below_two HB0.out H.below⟩
  · go_enter Try.func13, Try.ntmps13
    go_wp2
    go_ret
    exact ⟨rfl, (Below.refl _ _).alloc (Nat.le_refl _) _⟩
end Go.Proofs.Ytadmpfmpmpdbeaa.fnExactAppendCrc
