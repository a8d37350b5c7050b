/-
  Chapter 18: what FnPadded asks: sums of cells.
-/
import Derived.Test.YtilkopbfbmibgaaLiE
import Derived.Test.YtilkopbfbmibgaaLi1
namespace Go.Proofs.Ytilkopbfbmibgaa
open Go.RowKit

theorem sum_take {xs : List Int} {k : Nat} (h : k < xs.length) : (xs.take (k + 1)).sum = (xs.take k).sum + xs.getD k 0 := by
  rw [take_succ' xs k h, List.sum_append]
  simp
/-- laws.sum of cells. -/
theorem sumB_any (ao : Option Addr) (n cap : Nat) (xs : List Int) (w : World) (hr : Rd w ao n xs) (hn : n ≤ 1048576) (hbits : ∀ x ∈ xs, 0 ≤ x ∧ x ≤ 1) :
    Calls Try.prog 34 #[.slice ao n cap] w fun e w' => e = .returned (.int .i64 xs.sum) ∧ w = w' := by
  obtain ⟨hlen, hat⟩ := hr
  have HL := Lib.hid hlen; clear hlen
  have HA := Lib.hid hat; clear hat
  have HZ := Lib.hid hbits; clear hbits
  go_enter Try.func34, Try.ntmps34
  go_wp2
  go_loop [3, 4] (fun v i => ∃ (k : Nat) (y : Int), k ≤ n ∧ i = .int .i64 k ∧ v = .int .i64 y ∧ 0 ≤ y ∧ y ≤ k ∧ Hid ((xs.take k).sum = y)) (fun _ i => n - (intOf i).toNat)
  case atStart => exact ⟨0, 0, Nat.zero_le _, rfl, rfl, by omega, by omega, rfl⟩
  case round =>
    obtain ⟨k, y, hk, rfl, rfl, hy0, hy1, HY⟩ := hrel
    by_cases hlt : k < n
    · obtain ⟨b, off, rfl, hall⟩ := HA.out (by omega)
      have hck := hall k hlt
      clear hall
      have hkx : k < xs.length := by rw [HL.out]; exact hlt
      have hb0 := HZ.out (xs.getD k 0) (getD_mem hkx)
      have hfin : (xs.take (k + 1)).sum = y + xs.getD k 0 := by rw [sum_take hkx, HY.out]
      obtain ⟨x, hx⟩ : ∃ x, x = xs.getD k 0 := ⟨_, rfl⟩
      rw [← hx] at hck hb0 hfin
      obtain ⟨hb0, hb1⟩ := hb0
      have HF := Lib.hid hfin; clear hfin hx hkx HY HZ HL HA
      go_wp2
      go_round
      case rel => exact ⟨k + 1, y + x, by omega, by go_num, rfl, by omega, by omega, HF⟩
      case measure => simp [intOf]; omega
    · have hkn : k = n := by omega
      subst hkn
      have hfin : y = xs.sum := by rw [← HY.out, List.take_of_length_le (by rw [HL.out]; exact Nat.le_refl _)]
      have HF := Lib.hid hfin; clear hfin
      go_wp2
      go_ret
      exact ⟨ret_int HF.out, rfl⟩
theorem sum_bits {xs : List Int} (h : ∀ x ∈ xs, 0 ≤ x ∧ x ≤ 1) : 0 ≤ xs.sum ∧ xs.sum ≤ xs.length := by
  induction xs with
  | nil => simp
  | cons x xs ih =>
    have h1 := h x (by simp)
    have h2 := ih fun y hy => h y (by simp [hy])
    rw [List.sum_cons, List.length_cons]
    omega
theorem padded_bits {xs L : List Int} {b a : Int} (h : padLine xs b a = (L, 0)) : (∀ x ∈ xs, 0 ≤ x ∧ x ≤ 1) ∧ xs.length ≤ 8192 ∧ ∀ x ∈ L, 0 ≤ x ∧ x ≤ 1 := by
  rcases hb : isBits xs with _ | _
  · rw [pl_1 hb] at h; cases h
  · obtain ⟨hn, hx⟩ := isBits_iff.1 hb
    refine ⟨hx, hn, ?_⟩
    unfold padLine at h
    rw [if_neg (by rw [hb]; simp)] at h
    split at h
    · cases h
    · split at h
      · cases h
      · have e := (congrArg Prod.fst h).symm
        simp only at e
        subst e
        intro x hx2
        simp only [List.mem_append, List.mem_replicate] at hx2
        rcases hx2 with (⟨-, rfl⟩ | hx2) | ⟨-, rfl⟩
        · omega
        · exact hx x hx2
        · omega
end Go.Proofs.Ytilkopbfbmibgaa
