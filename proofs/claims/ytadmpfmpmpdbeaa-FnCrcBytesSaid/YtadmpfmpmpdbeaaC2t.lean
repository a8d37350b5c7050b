/-
  Check numbers of bytes follow from the table, and are those of their bits: plain facts.
-/
import Derived.Test.YtadmpfmpmpdbeaaC2q
namespace Go.Proofs.Ytadmpfmpmpdbeaa
open Go.RowKit

theorem crcTab_getD {W : Nat} (g : BitVec W) (v : Nat) (h : v < 256) : (crcTab (W : Int) (g.toNat : Int) 256).getD v 0 = tabOf g v := by
  rw [crcTab_eq]
  simp [List.getD, h]
theorem crcTab_len (wd p : Int) (k : Nat) : (crcTab wd p k).length = k := by unfold crcTab; rw [List.length_map, List.length_range]
/-- What a check number of bytes without an error means. -/
theorem bytes_round' {wd p s r0 : Int} {xs : List Int} (h : crcOfBytes wd p s xs = (r0, 0)) :
    isBytes xs = true ∧ isCrc wd p = true ∧ crcOfBits wd p s (xs.flatMap (bitsOf · 8)) = (r0, 0) ∧
    ∃ z, crcOfBytes wd p 0 xs = (z, 0) ∧ ∀ v : Nat, v < 256 → xs = [(v : Int)] → z = (crcTab wd p 256).getD v 0 := by
  by_cases hc : crcCode wd p s = 0
  · rcases hb : isBytes xs with _ | _
    · rw [coy_3 hc hb] at h; cases h
    · rw [coy_0 hc hb] at h
      obtain ⟨W, g, r, rfl, h1, h2, rfl, hg, rfl⟩ := crcCode_zero hc
      rw [crcRaw_eq] at h
      have hl := (isBytes_iff.1 hb).1
      have hbits : isBits (xs.flatMap (bitsOf · 8)) = true := isBits_iff.2 ⟨by rw [flat_len]; omega, flat_bits xs⟩
      refine ⟨rfl, isCrc_put h1 h2 hg, ?_, regOf g 0#W (xs.flatMap (bitsOf · 8)), ?_, fun v hv hx => ?_⟩
      · rw [cob_put r h1 h2 hg hbits]; exact h
      · have h0 := crcCode_put (g := g) (0#W) h1 h2 hg
        rw [show (((0#W).toNat : Nat) : Int) = 0 from by simp] at h0
        have e := crcRaw_eq g (0#W) (xs.flatMap (bitsOf · 8))
        rw [show (((0#W).toNat : Nat) : Int) = 0 from by simp] at e
        rw [coy_0 h0 hb, e]
      · rw [crcTab_getD g v hv, hx]
        unfold tabOf
        simp
  · rw [coy_code hc] at h
    exact absurd (congrArg Prod.snd h) hc
end Go.Proofs.Ytadmpfmpmpdbeaa
