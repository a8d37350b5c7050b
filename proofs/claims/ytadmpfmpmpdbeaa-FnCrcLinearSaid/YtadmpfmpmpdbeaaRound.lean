/-
  Numbers and their bits: plain facts. No program is named here.
-/
import Derived.Test.YtadmpfmpmpdbeaaPlain
namespace Go.Proofs.Ytadmpfmpmpdbeaa
theorem pow_pos' (k : Nat) : (0 : Int) < 2 ^ k := Int.pow_pos (by omega)
theorem numOf_top (v : Int) (w j : Nat) (h0 : 0 ≤ v) (h1 : v < 2 ^ w) (hj : j ≤ w) : numOf (topBits v w j) = v / 2 ^ (w - j) := by
  induction j with
  | zero => rw [Nat.sub_zero, Int.ediv_eq_zero_of_lt h0 h1]; rfl
  | succ j ih =>
    rw [topBits_succ, numOf_snoc, ih (by omega)]
    unfold bitAt
    rw [show w - j = (w - 1 - j) + 1 from by omega, Int.pow_succ, ← Int.ediv_ediv_of_nonneg (by have := pow_pos' (w - 1 - j); omega), show w - (j + 1) = w - 1 - j from by omega]
    omega
theorem numOf_bitsOf (v : Int) (w : Nat) (h0 : 0 ≤ v) (h1 : v < 2 ^ w) : numOf (bitsOf v w) = v := by
  unfold bitsOf
  rw [numOf_top v w w h0 h1 (Nat.le_refl _), Nat.sub_self]; simp
theorem bitsOf_bits (v : Int) (w : Nat) : ∀ x ∈ bitsOf v w, 0 ≤ x ∧ x ≤ 1 := by
  intro x hx
  unfold bitsOf topBits at hx
  obtain ⟨i, _, rfl⟩ := List.mem_map.1 hx
  unfold bitAt
  omega
theorem bitsOf_snoc (m b : Int) (n : Nat) (hb0 : 0 ≤ b) (hb1 : b ≤ 1) : bitsOf (2 * m + b) (n + 1) = bitsOf m n ++ [b] := by
  unfold bitsOf
  rw [topBits_succ]
  have h1 : topBits (2 * m + b) (n + 1) n = topBits m n n := by
    unfold topBits
    refine List.map_congr_left fun i hi => ?_
    have hi := List.mem_range.1 hi
    unfold bitAt
    rw [show n + 1 - 1 - i = (n - 1 - i) + 1 from by omega, Int.pow_succ, Int.mul_comm (2 ^ (n - 1 - i)) 2, ← Int.ediv_ediv_of_nonneg (by omega), show (2 * m + b) / 2 = m from by omega]
  rw [h1]
  congr 1
  unfold bitAt
  rw [show n + 1 - 1 - n = 0 from by omega]
  simp; omega
theorem bitsOf_numOf (n : Nat) : ∀ ys : List Int, ys.length = n → (∀ x ∈ ys, 0 ≤ x ∧ x ≤ 1) → bitsOf (numOf ys) n = ys := by
  induction n with
  | zero => intro ys h _; have := List.length_eq_zero_iff.1 h; subst this; rfl
  | succ n ih =>
    intro ys h hb
    have hne : ys ≠ [] := fun e => by subst e; simp at h
    have e := List.dropLast_concat_getLast hne
    have hl : ys.dropLast.length = n := by rw [List.length_dropLast, h]; omega
    have hb1 := hb _ (List.getLast_mem hne)
    rw [← e, numOf_snoc, bitsOf_snoc _ _ _ hb1.1 hb1.2, ih _ hl fun x hx => hb x (by rw [← e]; exact List.mem_append_left _ hx)]
end Go.Proofs.Ytadmpfmpmpdbeaa
