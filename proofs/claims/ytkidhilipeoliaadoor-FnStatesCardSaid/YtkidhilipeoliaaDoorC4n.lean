/-
  What FnAdvanced says, as plain facts on numbers.
-/
import Derived.Test.YtkidhilipeoliaaDoorC4c
namespace Go.Proofs.YtkidhilipeoliaaDoor

theorem advance_get {t m r s k d sl rd q0 q1 q2 q3 q4 : Int} (h : advanced t m r s k d sl rd = (q0, q1, q2, q3, q4, 0)) :
    isState t m r s k = true ∧ (0 ≤ d ∧ d ≤ 65535) ∧ (1 ≤ sl ∧ sl ≤ 256) ∧ (1 ≤ rd ∧ rd ≤ 16) ∧ s < sl ∧ r < rd ∧ q0 = (t + d) % 65536 ∧ q1 = m ∧ q2 = (stepRS sl rd r s).1 ∧ q3 = (stepRS sl rd r s).2 ∧ q4 = k := by
  rcases hA : isState t m r s k with _ | _
  · rw [ad_1 hA] at h; simp at h
  · rcases hm : mayAdvance r s d sl rd with _ | _
    · rw [ad_2 hA hm] at h; simp at h
    · rw [ad_0 hA hm] at h
      obtain ⟨b1, b2, b3, b4, b5⟩ := may_iff.1 hm
      simp only [Prod.mk.injEq] at h
      exact ⟨rfl, b1, b2, b3, b4, b5, h.1.symm, h.2.1.symm, h.2.2.1.symm, h.2.2.2.1.symm, h.2.2.2.2.1.symm⟩
theorem advance_time {t m r s k d sl rd q0 q1 q2 q3 q4 : Int} (h : advanced t m r s k d sl rd = (q0, q1, q2, q3, q4, 0)) :
    ∃ x, timeOf t m r s k q0 q1 q2 q3 q4 = (x, 0) ∧ -32768 ≤ x ∧ x ≤ 32767 ∧ (x - d).tmod 65536 = 0 := by
  obtain ⟨hA, -, b2, b3, b4, b5, rfl, rfl, rfl, rfl, rfl⟩ := advance_get h
  obtain ⟨a1, a2, a3, a4, a5⟩ := isState_iff.1 hA
  have hin := steps_in (slots := sl) (rounds := rd) (r := r) (s := s) ⟨a4.1, b4⟩ ⟨a3.1, b5⟩ 1
  have hB : isState ((t + d) % 65536) q1 (stepRS sl rd r s).1 (stepRS sl rd r s).2 q4 = true := by
    have e : stepsRS sl rd 1 r s = stepRS sl rd r s := rfl
    rw [e] at hin
    exact isState_iff.2 ⟨by omega, a2, by omega, by omega, a5⟩
  have hr := time_range t ((t + d) % 65536)
  refine ⟨_, to_0 hA hB, hr.1, hr.2, ?_⟩
  exact Int.tmod_eq_zero_of_dvd (Int.dvd_of_emod_eq_zero (time_advance t d))
theorem advance_one {t m k d sl rd R S : Int} (ht : 0 ≤ t ∧ t ≤ 65535) (hm : 0 ≤ m ∧ m ≤ 15) (hk : 0 ≤ k ∧ k ≤ 4294967295) (hd : 0 ≤ d ∧ d ≤ 65535) (hsl : 1 ≤ sl ∧ sl ≤ 256) (hrd : 1 ≤ rd ∧ rd ≤ 16) (hR : 0 ≤ R ∧ R < rd) (hS : 0 ≤ S ∧ S < sl) :
    advanced t m R S k d sl rd = ((t + d) % 65536, m, (stepRS sl rd R S).1, (stepRS sl rd R S).2, k, 0) :=
  ad_0 (isState_iff.2 ⟨ht, hm, by omega, by omega, hk⟩) (may_iff.2 ⟨hd, hsl, hrd, hS.2, hR.2⟩)
theorem steps_next {sl rd r s R S : Int} {j : Nat} (h : stepsRS sl rd j r s = (R, S)) : stepsRS sl rd (j + 1) r s = stepRS sl rd R S := by
  unfold stepsRS
  rw [h]
theorem steps_bound {sl rd r s R S : Int} {j : Nat} (h : stepsRS sl rd j r s = (R, S)) (hs : 0 ≤ s ∧ s < sl) (hr : 0 ≤ r ∧ r < rd) : (0 ≤ R ∧ R < rd) ∧ 0 ≤ S ∧ S < sl := by
  have := steps_in hs hr j
  rwa [h] at this
theorem steps_end {sl rd r s R S : Int} (h : stepsRS sl rd sl.toNat r s = (R, S)) (hs : 0 ≤ s ∧ s < sl) : R = (r + 1) % rd ∧ S = s := by
  rw [steps_round hs.1 hs.2] at h
  exact ⟨(congrArg Prod.fst h).symm, (congrArg Prod.snd h).symm⟩
theorem state_neq_self (t m r s k : Int) (w : World) : (binOp .neq 25 (.agg #[.int .i64 t, .int .i64 m, .int .i64 r, .int .i64 s, .int .i64 k]) (.agg #[.int .i64 t, .int .i64 m, .int .i64 r, .int .i64 s, .int .i64 k])).run Tryd.prog w = .ok (.bool false) w := by
  have he := state_eql t m r s k t m r s k w
  rw [run_eql_struct] at he
  rw [run_neq_struct]
  rcases hq : (Op.equalIn 10000 25 (.agg #[.int .i64 t, .int .i64 m, .int .i64 r, .int .i64 s, .int .i64 k]) (.agg #[.int .i64 t, .int .i64 m, .int .i64 r, .int .i64 s, .int .i64 k])).run Tryd.prog w with ⟨b, w'⟩ | _
  · rw [hq] at he
    simp [Result.andThen] at he ⊢
    exact he
  · rw [hq] at he
    simp [Result.andThen] at he
end Go.Proofs.YtkidhilipeoliaaDoor
