/-
  The three bytes of a check number, by the program; the model's register of the standard code.
-/
import Derived.Test.YtbdfnkhmnglpbaaSe
import Derived.Test.YtbdfnkhmnglpbaaTwoB
import Derived.Test.YtbdfnkhmnglpbaaOneB
import Derived.Test.YtbdfnkhmnglpbaaDrawB
namespace Go.Proofs.Ytbdfnkhmnglpbaa
open Go.RowKit

theorem three_round {x : Int} (h : 0 ≤ x ∧ x ≤ 16777215) : bitsToBytes (bitsOf x 24) = (three x, 0) := by
  have hb := three_bytes h
  have h1 : bytesToBits (three x) = (bitsOf x 24, 0) := by
    rw [bb_0 (isBytes_iff.2 ⟨by rw [three_len]; omega, hb⟩), ← three_bits h]; rfl
  exact (bytes_round h1).2
/-- The three bytes of a number. -/
theorem bytesOfNumber_any (x : Int) (w : World) (h : 0 ≤ x ∧ x ≤ 16777215) : Calls Try.prog 118 #[.int .i64 x, .int .i64 3] w (Makes 2 w (three x)) := by
  have he := three_round h
  have hl := bitsOf_len x 24
  have hp := fun W => push_any W.heap.size (.slice none 0 0) [] x 24 W Own.nil_ (by simp) (Nat.le_refl _) (by omega)
  simp only [List.nil_append] at hp
  generalize bitsOf x 24 = bs at he hl hp
  generalize three x = ys at he ⊢
  have HE := Lib.hid he; have HL := Lib.hid hl; have HP := Lib.hid hp; clear he hl hp
  go_enter Try.func118, Try.ntmps118
  go_wp2_with fail
  refine (HP.out _).mono ?_
  rintro e w1 ⟨v1, rfl, o1, b1⟩
  obtain ⟨p1, c1, rfl, o1, r1⟩ := o1.get
  go_wp2_with fail
  refine (bitsToBytes_any _ _ _ _ r1 (by rw [HL.out]; omega) (Own.cap o1).1).mono ?_
  rintro e w2 m2
  rw [HE.out] at m2
  change Makes2 2 _ ys 0 _ _ at m2
  obtain ⟨p2, c2, rfl, o2, -, b2⟩ := m2.get
  have O2 := Lib.hid (o2.more b1.size)
  have B2 := Lib.hid (below_two b1 b2)
  clear m2 o1 o2 r1 b1 b2
  go_wp2
  go_ret
  exact ⟨_, rfl, O2.out, B2.out⟩
/-- The three bytes of a check number. -/
theorem bytesOfCheck_any (x : Int) (w : World) (h : 0 ≤ x ∧ x ≤ 16777215) : Calls Try.prog 75 #[.int .i64 x] w (Makes 2 w (three x)) := by
  have HC := Lib.hid (bytesOfNumber_any x w h)
  go_enter Try.func75, Try.ntmps75
  go_wp2_with fail
  refine HC.out.mono ?_
  rintro e w1 ⟨v1, rfl, o1, b1⟩
  go_wp2
  go_ret
  exact ⟨_, rfl, o1, b1⟩
/-- spec.l02Feed of the standard code. -/
theorem feedStd_any (y : BitVec 24) (ao : Option Addr) (n cap : Nat) (xs : List Int) (id : Int) (w : World) (hid : (y.toNat : Int) = id) (hr : Rd w ao n xs) (hn : n ≤ 1048576) (hb : ∀ x ∈ xs, 0 ≤ x ∧ x ≤ 1) :
    Calls Try.prog 124 #[.agg #[.int .i64 24, .int .i64 6122955], .int .i64 id, .slice ao n cap] w fun e w' => e = .returned (.int .i64 (regOf stdG y xs)) ∧ Below w.heap.size w w' := by
  subst hid
  have h := feed_any 24 stdG y ao n cap xs w (by omega) (by omega) hr hn hb
  rw [std_nat] at h
  exact h
end Go.Proofs.Ytbdfnkhmnglpbaa
