/-
  Chapter 7: the differences of two lists as flips of noughts, and their number. No program is named here.
-/
import Derived.Test.YtdcalkobcdeclaaSe3
namespace Go.Proofs.Ytdcalkobcdeclaa

theorem diff_at {xs ys : List Int} (h : xs.length = ys.length) {k : Nat} (hk : k < xs.length) : (diffBits xs ys).getD k 0 = if xs.getD k 0 = ys.getD k 0 then 0 else 1 := by
  have hk2 : k < ys.length := by omega
  have hk3 : k < (diffBits xs ys).length := by rw [diff_len h]; exact hk
  have e1 : (diffBits xs ys).getD k 0 = (diffBits xs ys)[k] := by simp [List.getD, hk3]
  have e2 : xs.getD k 0 = xs[k] := by simp [List.getD, hk]
  have e3 : ys.getD k 0 = ys[k] := by simp [List.getD, hk2]
  rw [e1, e2, e3]
  exact List.getElem_zipWith
theorem diff_weight {xs ys : List Int} (h : xs.length = ys.length) (k : Nat) (hk : k ≤ xs.length) : weight ((diffBits xs ys).take k) = ((diffTo xs ys k).length : Int) := by
  induction k with
  | zero => simp [diffTo, weight]
  | succ k ih =>
    have ih := ih (by omega)
    rw [weight_take _ k (by rw [diff_len h]; omega), ih, diff_at h (by omega)]
    cases hd : (xs.getD k 0 != ys.getD k 0) with
    | true =>
      have hne : xs.getD k 0 ≠ ys.getD k 0 := by simpa only [bne_iff_ne] using hd
      rw [diffTo_ne hd, if_neg hne, List.length_append, List.length_singleton]
      omega
    | false =>
      have he : xs.getD k 0 = ys.getD k 0 := by simpa only [bne_eq_false_iff_eq] using hd
      rw [diffTo_eq hd, if_pos he]
      omega
/-- The number of differences is the weight of the list that has a one at each. -/
theorem diff_count {xs ys : List Int} (h : xs.length = ys.length) : weight (diffBits xs ys) = ((diffTo xs ys xs.length).length : Int) := by
  have := diff_weight h xs.length (Nat.le_refl _)
  rwa [List.take_of_length_le (by rw [diff_len h]; exact Nat.le_refl _)] at this
theorem set_next (ds : List Int) (n k : Nat) (v : Int) (hn : ds.length = n) (hk : k < n) : (ds.take k ++ List.replicate (n - k) 0).set k v = ds.take k ++ v :: List.replicate (n - (k + 1)) 0 := by
  have hl : (ds.take k).length = k := by rw [List.length_take]; omega
  obtain ⟨m, hm⟩ : ∃ m, n - k = m + 1 := ⟨n - k - 1, by omega⟩
  rw [hm, show n - (k + 1) = m from by omega, List.replicate_succ, List.set_append_right _ _ (by omega), hl, Nat.sub_self]
  rfl
/-- Noughts flipped where two lists differ. -/
theorem flips_differ {xs ys : List Int} (h : xs.length = ys.length) : flips (List.replicate xs.length 0) (diffTo xs ys xs.length) = diffBits xs ys := by
  have hdl := diff_len h
  have key : ∀ k, k ≤ xs.length → flips (List.replicate xs.length 0) (diffTo xs ys k) = (diffBits xs ys).take k ++ List.replicate (xs.length - k) 0 := by
    intro k
    induction k with
    | zero => intro _; simp [diffTo, flips]
    | succ k ih =>
      intro hk
      have ih := ih (by omega)
      have hat := diff_at h (k := k) (by omega)
      have htake : (diffBits xs ys).take (k + 1) = (diffBits xs ys).take k ++ [(diffBits xs ys).getD k 0] := by
        rw [List.take_add_one, List.getElem?_eq_getElem (by omega)]
        simp [List.getD, show k < (diffBits xs ys).length from by omega]
      have hl : ((diffBits xs ys).take k).length = k := by rw [List.length_take]; omega
      cases hd : (xs.getD k 0 != ys.getD k 0) with
      | true =>
        have hne : xs.getD k 0 ≠ ys.getD k 0 := by simpa only [bne_iff_ne] using hd
        rw [if_neg hne] at hat
        have hz : ((diffBits xs ys).take k ++ List.replicate (xs.length - k) 0).getD k 0 = 0 := by
          simp only [List.getD]
          rw [List.getElem?_append_right (by omega), hl, Nat.sub_self, List.getElem?_replicate]
          split <;> rfl
        rw [diffTo_ne hd, flips_snoc, ih, Int.toNat_natCast, hz, set_next _ _ _ _ hdl (by omega), htake, hat]
        simp
      | false =>
        have he : xs.getD k 0 = ys.getD k 0 := by simpa only [bne_eq_false_iff_eq] using hd
        rw [if_pos he] at hat
        obtain ⟨m, hm⟩ : ∃ m, xs.length - k = m + 1 := ⟨xs.length - k - 1, by omega⟩
        rw [diffTo_eq hd, ih, htake, hat, hm, show xs.length - (k + 1) = m from by omega, List.replicate_succ]
        simp
  have := key xs.length (Nat.le_refl _)
  rwa [List.take_of_length_le (by omega), Nat.sub_self, List.replicate_zero, List.append_nil] at this
theorem reg_id {id : Int} (h : 0 ≤ id ∧ id ≤ 16777215) : ((regS id).toNat : Int) = id := by
  unfold regS
  rw [BitVec.toNat_ofNat]
  omega
theorem std_nat : (stdG.toNat : Int) = 6122955 := by decide
end Go.Proofs.Ytdcalkobcdeclaa
