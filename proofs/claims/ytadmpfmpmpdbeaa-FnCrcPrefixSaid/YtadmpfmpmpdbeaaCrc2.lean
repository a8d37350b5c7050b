/-
  A byte at once; a register and its own bits: plain facts. No program is named here.
-/
import Derived.Test.YtadmpfmpmpdbeaaPlainC
import Derived.Test.YtadmpfmpmpdbeaaRound
namespace Go.Proofs.Ytadmpfmpmpdbeaa

theorem bl_bitsOf (n w : Nat) : bl (bitsOf (n : Int) w) = (List.range w).map fun i => n.testBit (w - 1 - i) := by
  unfold bl bitsOf topBits
  rw [List.map_map]
  refine List.map_congr_left fun i _ => ?_
  simp only [Function.comp]
  unfold bitAt
  rw [Nat.testBit_eq_decide_div_mod_eq]
  have e : (n : Int) / 2 ^ (w - 1 - i) % 2 = ((n / 2 ^ (w - 1 - i) % 2 : Nat) : Int) := by simp
  rw [e, decide_eq_decide]
  omega
section
variable {W : Nat} {g r : BitVec W}
theorem tops_own (n : Nat) (h : n < 2 ^ W) : bl (bitsOf (n : Int) W) = tops (BitVec.ofNat W n) W := by
  rw [bl_bitsOf, tops_eq]
  refine List.map_congr_left fun i hi => ?_
  have hi := List.mem_range.1 hi
  rw [BitVec.getMsbD_eq_getLsbD, BitVec.getLsbD, BitVec.toNat_ofNat, Nat.mod_eq_of_lt h]
  simp [hi]
theorem zip_tops (v : Nat) : List.zipWith (· ^^ ·) (bl (bitsOf (v : Int) 8)) (tops r 8) = bl (bitsOf ((r.toNat * 256 / 2 ^ W ^^^ v : Nat) : Int) 8) := by
  rw [bl_bitsOf, bl_bitsOf, tops_eq, List.zipWith_map_left, List.zipWith_map_right, List.zipWith_self]
  refine List.map_congr_left fun i hi => ?_
  have hi := List.mem_range.1 hi
  rw [Nat.testBit_xor, Nat.testBit_div_two_pow, show r.toNat * 256 = r.toNat <<< 8 from by rw [Nat.shiftLeft_eq], Nat.testBit_shiftLeft, BitVec.getMsbD_eq_getLsbD, BitVec.getLsbD, Bool.xor_comm]
  congr 2
  · rw [decide_eq_decide]; omega
  · congr 1; omega
/-- What a byte does to a register. -/
theorem byte_step (v : Nat) : fbs g r (bl (bitsOf (v : Int) 8)) = fbs g 0#W (bl (bitsOf ((r.toNat * 256 / 2 ^ W ^^^ v : Nat) : Int) 8)) ^^^ (r <<< 8) := by
  have h := fbs_tops (g := g) (bl (bitsOf (v : Int) 8)) r
  rw [show (bl (bitsOf (v : Int) 8)).length = 8 from by rw [bl_len, bitsOf_len], zip_tops v] at h
  exact h
theorem byte_index (v : Nat) (hv : v < 256) (r : BitVec W) : (r.toNat * 256 / 2 ^ W ^^^ v) < 256 := by
  have hr := r.isLt
  have hp : 0 < (2 : Nat) ^ W := Nat.two_pow_pos _
  have h1 : r.toNat * 256 / 2 ^ W < 2 ^ 8 := by
    rw [Nat.div_lt_iff_lt_mul hp]; omega
  exact Nat.xor_lt_two_pow (n := 8) h1 (by omega)
theorem byte_xor (v : Nat) (hv : v < 256) (hW : W ≤ 24) : bits .xor .i64 ((r.toNat : Int) * 256 / (2 : Int) ^ W) (v : Int) = ((r.toNat * 256 / 2 ^ W ^^^ v : Nat) : Int) := by
  have hr := reg_lt hW r
  have hd : r.toNat * 256 / 2 ^ W ≤ r.toNat * 256 := Nat.div_le_self _ _
  have e : (r.toNat : Int) * 256 / (2 : Int) ^ W = ((r.toNat * 256 / 2 ^ W : Nat) : Int) := by simp
  rw [e, xor_nat _ _ (by omega) (by omega)]
theorem byte_low (hW : W ≤ 24) : bits .and .i64 ((r.toNat : Int) * 256) ((2 : Int) ^ W - 1) = ((r <<< 8).toNat : Int) := by
  have := reg_lt hW r
  have e : (r.toNat : Int) * 256 = ((r.toNat * 256 : Nat) : Int) := by omega
  rw [e, reg_mask hW _ (by omega), BitVec.toNat_shiftLeft, Nat.shiftLeft_eq]
/-- A register that is fed with so many bits as it has is 0 exactly if it is their number. -/
theorem fbs_zero_iff (hg : g.getLsbD 0 = true) (ys : List Int) (hl : ys.length = W) (hb : ∀ x ∈ ys, 0 ≤ x ∧ x ≤ 1) : fbs g r (bl ys) = 0#W ↔ (r.toNat : Int) = numOf ys := by
  have hbd := numOf_bound ys hb
  rw [hl] at hbd
  have e2 : ((2 ^ W : Nat) : Int) = (2 : Int) ^ W := by simp
  have hlt : (numOf ys).toNat < 2 ^ W := by omega
  have hown : fbs g (BitVec.ofNat W (numOf ys).toNat) (bl ys) = 0#W := by
    refine fbs_own _ (by rw [bl_len, hl]) ?_
    rw [← tops_own _ hlt, show (((numOf ys).toNat : Nat) : Int) = numOf ys from by omega, bitsOf_numOf W ys hl hb]
  constructor
  · intro h
    have := fbs_inj hg (bl ys) (h.trans hown.symm)
    rw [this, BitVec.toNat_ofNat, Nat.mod_eq_of_lt hlt]; omega
  · intro h
    have : r = BitVec.ofNat W (numOf ys).toNat := by
      apply BitVec.eq_of_toNat_eq
      rw [BitVec.toNat_ofNat, Nat.mod_eq_of_lt hlt]; omega
    rw [this]; exact hown
end
end Go.Proofs.Ytadmpfmpmpdbeaa
