/-
  Chapter 16: what its laws say.
-/
import Derived.Test.YtbbodgeoenjdkaaPl9
namespace Go.Proofs.Ytbbodgeoenjdkaa

theorem planCode_of {t : List Dm} {R S : Int} (h1 : areDms t = true) (h2 : isPow R = true) (h3 : 1 ≤ S) (h4 : S ≤ 16) : planCode t R S = 0 := by
  unfold planCode plFrame inRange
  simp [h1, h2, h3, h4]
theorem needed_law {t : List Dm} {R q : Int} (h : slotsNeeded t R = (q, 0)) : (planDemands t R q).2 = 0 ∧ (q ≠ 1 → (planDemands t R (q - 1)).2 = 4) ∧ (1 ≤ q ∧ q ≤ 16) := by
  have hc : planCode t R 16 = 0 := by
    refine Classical.byContradiction fun hc => ?_
    rw [slotsNeeded_bad hc] at h
    exact hc (congrArg Prod.snd h)
  have hk := okPl hc
  cases hl : plPlan tab0 R.toNat 16 0 t with
  | none => rw [slotsNeeded_none hc hl] at h; cases h
  | some l =>
    rw [slotsNeeded_some hc hl] at h
    cases h
    have h1 : 1 ≤ plMost l := (plMost_ge l 1).1
    have h2 : plMost l ≤ 16 := plMost_le l 1 16 (by omega) (fun b hb => (plPlan_slot _ _ _ hl b hb).2)
    refine ⟨?_, fun hne => ?_, h1, h2⟩
    · have hs := (plPlan_most (S := (plMost l).toNat) hl (by omega) (by omega)).2 (by omega)
      obtain ⟨l', hl'⟩ := Option.isSome_iff_exists.1 hs
      rw [planDemands_some (planCode_of hk.dm hk.R h1 h2) hl']
    · have hs : plPlan tab0 R.toNat (plMost l - 1).toNat 0 t = none := by
        cases h3 : plPlan tab0 R.toNat (plMost l - 1).toNat 0 t with
        | none => rfl
        | some l' =>
          have := (plPlan_most (S := (plMost l - 1).toNat) hl (by omega) (by omega)).1 (by rw [h3]; rfl)
          omega
      rw [planDemands_none (planCode_of hk.dm hk.R (by omega) (by omega)) hs]
end Go.Proofs.Ytbbodgeoenjdkaa
