/-
  The standard code: one to three wrong bits are found. No program is named here.
-/
import Derived.Test.YtdcalkobcdeclaaReg
namespace Go.Proofs.Ytdcalkobcdeclaa

/-- The polynomial of the standard code. -/
def stdG : BitVec 24 := 6122955#24
section
variable {W : Nat} {g : BitVec W}
/-- In the next n steps the register is not the polynomial. -/
def noRep (g : BitVec W) : Nat → BitVec W → Bool
  | 0, _ => true
  | n + 1, r => (fb g r false != g) && noRep g n (fb g r false)
theorem noRep_tail (n k : Nat) (h : noRep g n (tail g k) = true) : ∀ m, k < m → m ≤ k + n → tail g m ≠ g := by
  induction n generalizing k with
  | zero => intro m h1 h2; omega
  | succ n ih =>
    unfold noRep at h
    rw [← tail_succ, Bool.and_eq_true, bne_iff_ne] at h
    intro m h1 h2
    by_cases hm : m = k + 1
    · rw [hm]; exact h.1
    · exact ih (k + 1) h.2 m (by omega) (by omega)
end
/-- The same by numbers below 2 to 24. -/
def stepN (r : Nat) : Nat := if 8388608 ≤ r then (r * 2 % 16777216) ^^^ 6122955 else r * 2
def noRepN : Nat → Nat → Bool
  | 0, _ => true
  | n + 1, r => if Nat.beq (stepN r) 6122955 then false else noRepN n (stepN r)
theorem step_std (r : BitVec 24) : (fb stdG r false).toNat = stepN r.toNat := by
  unfold fb stepN stdG
  rw [Bool.xor_false]
  have hm : r.msb = decide (8388608 ≤ r.toNat) := by rw [BitVec.msb_eq_decide]
  rw [hm]
  have hr := r.isLt
  by_cases h : 8388608 ≤ r.toNat
  · simp only [h, decide_true, if_true, BitVec.toNat_xor, BitVec.toNat_shiftLeft, Nat.shiftLeft_eq]
    rfl
  · simp only [h, decide_false, Bool.false_eq_true, if_false, BitVec.xor_zero, BitVec.toNat_shiftLeft, Nat.shiftLeft_eq]
    omega
theorem noRep_std (n : Nat) (r : BitVec 24) (h : noRepN n r.toNat = true) : noRep stdG n r = true := by
  induction n generalizing r with
  | zero => rfl
  | succ n ih =>
    unfold noRepN at h
    unfold noRep
    split at h
    · cases h
    · rename_i hne
      rw [Bool.and_eq_true, bne_iff_ne]
      refine ⟨fun e => hne ?_, ih _ (by rw [step_std]; exact h)⟩
      have := congrArg BitVec.toNat e
      rw [step_std] at this
      rw [this]
      rfl
theorem std_tail : ∀ m, 0 < m → m ≤ 1000 → tail stdG m ≠ stdG := fun m h1 h2 =>
  noRep_tail 1000 0 (noRep_std 1000 stdG (by decide +kernel)) m h1 (by omega)
theorem std_order : 1000 < order stdG := by
  rcases Nat.lt_or_ge 1000 (order stdG) with h | h
  · exact h
  · exfalso
    have hl := ord_le (g := stdG) 5000 1
    exact std_tail (order stdG) hl.1 h (ord_at 5000 1 (by unfold order at h; omega))
theorem burst_len {xs : List Int} : (burst xs).2 ≤ xs.length := by
  rcases Nat.eq_zero_or_pos (burst xs).2 with h | h
  · omega
  · have := (burst_parts xs h).1; omega
/-- One to three wrong bits are found. -/
theorem std_found {xs : List Int} (hb : ∀ x ∈ xs, 0 ≤ x ∧ x ≤ 1) (hl : xs.length ≤ 1000) (h1 : 0 < weight xs) (h3 : weight xs ≤ 3) : fbs stdG 0#24 (bl xs) ≠ 0#24 := by
  have hg : stdG.getLsbD 0 = true := by decide
  have hw : weight (bitsOf (stdG.toNat : Int) 24) % 2 = 1 := by decide +kernel
  have := std_order
  have hbl := burst_len (xs := xs)
  rcases (show weight xs = 1 ∨ weight xs = 2 ∨ weight xs = 3 from by omega) with h | h | h
  · exact found_synd hg hb h1 (.inl ⟨by rw [h]; rfl, hw⟩)
  · exact found_synd hg hb h1 (.inr (.inr ⟨h, by omega⟩))
  · exact found_synd hg hb h1 (.inl ⟨by rw [h]; rfl, hw⟩)
end Go.Proofs.Ytdcalkobcdeclaa
