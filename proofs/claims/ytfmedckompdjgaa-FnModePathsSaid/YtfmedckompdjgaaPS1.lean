/-
  Chapter 11: what the innermost loop of the model's distances keeps. No program is named here.
-/
import Derived.Test.YtfmedckompdjgaaMd1
namespace Go.Proofs.Ytfmedckompdjgaa

/-- Within the pass for d, at mode i, k of its next modes looked at. -/
def Look (t : List Md) (z d i : Nat) (L : List Int) (k : Nat) : Prop :=
  (L = distsAt t z d i ∧ (distTo t z d i < 0 → ∀ j, j < k → distTo t z d ((mdOf t i).next.getD j 0).toNat ≠ d)) ∨ (L = distsAt t z d (i + 1) ∧ 0 ≤ distTo t z (d + 1) i)
section
variable {t : List Md} {z d i k : Nat} {L : List Int}
theorem Look.len (h : Look t z d i L k) : L.length = t.length := by
  rcases h with ⟨rfl, -⟩ | ⟨rfl, -⟩ <;> exact distsAt_len _ _ _ _
theorem Look.start : Look t z d i (distsAt t z d i) 0 := .inl ⟨rfl, fun _ j hj => by omega⟩
theorem look_here (hi : i < t.length) : (distsAt t z d i).getD i 0 = distTo t z d i := by rw [distsAt_get hi, if_neg (by omega)]
theorem look_there (hi : i < t.length) : (distsAt t z d (i + 1)).getD i 0 = distTo t z (d + 1) i := by rw [distsAt_get hi, if_pos (by omega)]
theorem Look.open_ (hi : i < t.length) (h : Look t z d i L k) (hl : L.getD i 0 < 0) : L = distsAt t z d i ∧ distTo t z d i < 0 ∧ ∀ j, j < k → distTo t z d ((mdOf t i).next.getD j 0).toNat ≠ d := by
  rcases h with ⟨rfl, h2⟩ | ⟨rfl, h2⟩
  · rw [look_here hi] at hl
    exact ⟨rfl, hl, h2 hl⟩
  · rw [look_there hi] at hl
    omega
theorem Look.stop (ht : isModes t = true) (hi : i < t.length) (h : Look t z d i L k) (hs : ¬ L.getD i 0 < 0 ∨ k = (mdOf t i).next.length) : L = distsAt t z d (i + 1) := by
  rcases h with ⟨rfl, h2⟩ | ⟨rfl, -⟩
  · by_cases h0 : distTo t z d i < 0
    · rw [look_here hi] at hs
      have hk : k = (mdOf t i).next.length := by omega
      refine distsAt_still ?_
      rw [distTo, if_neg]
      rintro ⟨-, h3⟩
      obtain ⟨m, hm, e⟩ := (near_iff ht).1 h3
      obtain ⟨j, hj, ej⟩ := List.getElem_of_mem hm
      have := h2 h0 j (by omega)
      rw [List.getD_eq_getElem?_getD, List.getElem?_eq_getElem hj, Option.getD_some, ej, Int.toNat_natCast] at this
      exact this e
    · exact distsAt_still (dist_keep (by omega))
  · rfl
theorem Look.hit (ht : isModes t = true) (hi : i < t.length) (h : Look t z d i L k) (hl : L.getD i 0 < 0) (hk : k < (mdOf t i).next.length) (hy : L.getD ((mdOf t i).next.getD k 0).toNat 0 = d) : Look t z d i (L.set i ((d : Int) + 1)) (k + 1) := by
  obtain ⟨rfl, h1, -⟩ := h.open_ hi hl
  have hm : (mdOf t i).next.getD k 0 ∈ (mdOf t i).next := by rw [List.getD_eq_getElem?_getD, List.getElem?_eq_getElem hk]; exact List.getElem_mem hk
  have hb := next_in ht i _ hm
  rw [distsAt_is (by omega)] at hy
  have e : distTo t z (d + 1) i = (d : Int) + 1 := by
    rw [distTo, if_pos ⟨h1, (near_iff ht).2 ⟨((mdOf t i).next.getD k 0).toNat, by rw [Int.toNat_of_nonneg hb.1]; exact hm, hy⟩⟩]
  exact .inr ⟨by rw [← e, distsAt_set], by omega⟩
theorem Look.miss (ht : isModes t = true) (hi : i < t.length) (h : Look t z d i L k) (hl : L.getD i 0 < 0) (hk : k < (mdOf t i).next.length) (hy : ¬ L.getD ((mdOf t i).next.getD k 0).toNat 0 = d) : Look t z d i L (k + 1) := by
  obtain ⟨rfl, h1, h2⟩ := h.open_ hi hl
  have hm : (mdOf t i).next.getD k 0 ∈ (mdOf t i).next := by rw [List.getD_eq_getElem?_getD, List.getElem?_eq_getElem hk]; exact List.getElem_mem hk
  have hb := next_in ht i _ hm
  rw [distsAt_is (by omega)] at hy
  refine .inl ⟨rfl, fun _ j hj => ?_⟩
  by_cases e : j < k
  · exact h2 j e
  · obtain rfl : j = k := by omega
    exact hy
end
theorem dists_len (t : List Md) (z : Nat) : (dists t z).length = t.length := distsAt_len _ _ _ _
end Go.Proofs.Ytfmedckompdjgaa
