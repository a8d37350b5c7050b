/-
  slices.Clone of demands; slices.SortStableFunc of at most 40 demands.
-/
import Derived.Test.YtbbodgeoenjdkaaSm8
namespace Go.Proofs.Ytbbodgeoenjdkaa
open Go.RowKit

set_option maxRecDepth 100000 in
/-- slices.SortStableFunc by the periods. -/
theorem sortStable_any (w0 w : World) (base g N cap : Nat) (f : Nat → Dm) (h : SoAt w0 w base g N cap f) (hN : N ≤ 40) :
    Calls Try.prog 56 #[.slice (some ⟨g, 0, none⟩) N cap, .func (.func 57) #[] #[]] w fun e w' => e = .returned (.tuple #[]) ∧ ∃ k, SoAt w0 w' base g N cap k ∧ MgF N f k 0 N := by
  have HS := Lib.hid (stable_any w0 w base g N cap f h hN)
  clear h
  go_enter Try.func56, Try.ntmps56
  go_wp2_with fail
  refine HS.out.mono ?_
  rintro e w1 ⟨rfl, k, s1, m1⟩
  have H1 := Lib.hid s1
  have HM := Lib.hid m1
  clear s1 m1 HS
  go_wp2
  go_end0
  exact ⟨rfl, k, H1.out, HM.out⟩
/-- What a sorted row of demands is. -/
theorem filter_sorted (r t : List Dm) (h : ∀ k : Int, r.filter (fun x => decide (x.every = k)) = t.filter fun x => decide (x.every = k)) : plSorted r = plSorted t := by
  unfold plSorted
  rw [h 1, h 2, h 4, h 8]
theorem mg_sorted {t : List Dm} {k : Nat → Dm} (hx : ∀ x ∈ t, isPow x.every = true) (m : MgF t.length (fun i => dmOf t i) k 0 t.length) : mkF k t.length = plSorted t := by
  have e : mkF (fun i => dmOf t i) t.length = t := mkF_of t Dm.zero
  have hs := m.sm
  unfold SmF at hs
  rw [e] at hs
  rw [← filter_sorted _ _ hs]
  refine sorted_is (mkF k t.length) (fun x hm => ?_) ?_
  · obtain ⟨i, hi, rfl⟩ := List.mem_map.1 hm
    obtain ⟨y, -, hy, ey⟩ := m.inn i (Nat.zero_le _) (List.mem_range.1 hi)
    rw [ey]
    show isPow (dmOf t y).every = true
    rw [dmOf_get hy]
    exact hx _ (List.getElem_mem hy)
  · rw [List.pairwise_iff_getElem]
    intro i j hi hj hij
    rw [mkF_len] at hi hj
    rw [mkF_get _ hi, mkF_get _ hj]
    exact m.sd i j (Nat.zero_le _) (by omega) hj
end Go.Proofs.Ytbbodgeoenjdkaa
