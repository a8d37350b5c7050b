/-
  Chapter 7: what FnMissedErrors says, of the plain functions.
-/
import Derived.Test.YtdcalkobcdeclaaHE
namespace Go.Proofs.Ytdcalkobcdeclaa
open Go.RowKit

theorem reg_zero (n : Nat) : regOf stdG 0#24 (List.replicate n 0) = 0 := by
  unfold regOf
  rw [bl_zeros, fbs_zero]
  rfl
theorem reg_not {xs : List Int} (h : fbs stdG 0#24 (bl xs) ≠ 0#24) : (regOf stdG 0#24 xs == 0) = false := by
  rw [beq_eq_false_iff_ne]
  intro e
  unfold regOf at e
  exact h (BitVec.eq_of_toNat_eq (by simpa using e))
/-- Errors that are no errors are missed, one to three are found. -/
theorem reg_law {xs : List Int} (hb : ∀ x ∈ xs, 0 ≤ x ∧ x ≤ 1) (hl : xs.length ≤ 1000) :
    (weight xs = 0 → (regOf stdG 0#24 xs == 0) = true) ∧ (0 < weight xs → weight xs ≤ 3 → (regOf stdG 0#24 xs == 0) = false) := by
  refine ⟨fun h => ?_, fun h1 h3 => reg_not (std_found hb hl h1 h3)⟩
  rw [weight_zero hb h, reg_zero]
  rfl
theorem missed_law {kind t m r s k t' m' r' s' k' : Int} {es : List Int} {mi : Bool} (h : missed kind t m r s k t' m' r' s' k' es = (mi, 0)) (hn : es.length ≤ 100) :
    isState t m r s k = true ∧ isState t' m' r' s' k' = true ∧ (∀ x ∈ es, 0 ≤ x ∧ x ≤ 1) ∧ (0 ≤ weight es ∧ weight es ≤ 100) ∧ ∀ TT : Int, TT = (if kind = 0 then weight es + (bitDist t m r s k t' m' r' s' k' : Int) else weight es) → (TT = 0 → mi = true) ∧ (0 < TT → TT ≤ 3 → mi = false) := by
  rcases ha : isState t m r s k with _ | _
  · rw [mi_A ha] at h; exact absurd (congrArg Prod.snd h) (by simp)
  rcases hb : isState t' m' r' s' k' with _ | _
  · rw [mi_A2 hb] at h; exact absurd (congrArg Prod.snd h) (by simp)
  rcases hk : kindOk kind with _ | _
  · rw [mi_B ha hb hk] at h; exact absurd (congrArg Prod.snd h) (by simp)
  rcases hf : frameErrs es with _ | _
  · rw [mi_C ha hb hk hf] at h; exact absurd (congrArg Prod.snd h) (by simp)
  rw [mi_K ha hb hk hf] at h
  have hm : (regOf stdG 0#24 (missedL kind t m r s k t' m' r' s' k' es) == 0) = mi := congrArg Prod.fst h
  have hbe := (isBits_iff.1 (fe_parts hf).1).2
  have hwb := weight_bound es hbe
  refine ⟨rfl, rfl, hbe, ⟨hwb.1, by omega⟩, fun TT hT => ?_⟩
  unfold missedL at hm
  by_cases h0 : kind = 0
  · rw [if_pos h0] at hT hm
    have hd : weight (diffBits (stateBits t m r s k) (stateBits t' m' r' s' k')) = (bitDist t m r s k t' m' r' s' k' : Int) := by
      have h := diff_count (xs := stateBits t m r s k) (ys := stateBits t' m' r' s' k') (by rw [stateBits_len, stateBits_len])
      rw [stateBits_len] at h
      exact h
    have hw : weight (diffBits (stateBits t m r s k) (stateBits t' m' r' s' k') ++ es) = TT := by rw [weight_append, hd, hT]; omega
    have hL := reg_law (xs := diffBits (stateBits t m r s k) (stateBits t' m' r' s' k') ++ es) (fun x hx => by
      rcases List.mem_append.1 hx with h | h
      · exact diff_bits _ _ x h
      · exact hbe x h) (by rw [List.length_append, diff_len (by rw [stateBits_len, stateBits_len]), stateBits_len]; omega)
    rw [hw, hm] at hL
    exact hL
  · rw [if_neg h0] at hT hm
    have hL := reg_law hbe (by omega)
    rw [← hT, hm] at hL
    exact hL
end Go.Proofs.Ytdcalkobcdeclaa
