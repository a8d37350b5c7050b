/-
  slices.Index and slices.Contains of numbers (the same as in C3a, without chapter 3).
-/
import Derived.Test.YtilkopbfbmibgaaOne
namespace Go.Proofs.Ytilkopbfbmibgaa
open Go.RowKit

/-- r is the index of the first x among the numbers, or -1. -/
def FirstAt (xs : List Int) (x r : Int) : Prop := (r = -1 ∧ ∀ j, j < xs.length → xs.getD j 0 ≠ x) ∨ ∃ k : Nat, r = k ∧ k < xs.length ∧ xs.getD k 0 = x ∧ ∀ j, j < k → xs.getD j 0 ≠ x
theorem getD_mem_iff (xs : List Int) (x : Int) : x ∈ xs ↔ ∃ j, j < xs.length ∧ xs.getD j 0 = x := by
  rw [List.mem_iff_getElem]
  constructor
  · rintro ⟨j, h, e⟩; exact ⟨j, h, by simpa [List.getD, h] using e⟩
  · rintro ⟨j, h, e⟩; exact ⟨j, h, by simpa [List.getD, h] using e⟩
theorem firstAt_mem {xs : List Int} {x r : Int} (h : FirstAt xs x r) : (decide (0 ≤ r)) = decide (x ∈ xs) := by
  rw [decide_eq_decide, getD_mem_iff]
  rcases h with ⟨h1, h2⟩ | ⟨k, h1, h2, h3, h4⟩
  · constructor
    · intro h; omega
    · rintro ⟨j, hj, e⟩; exact absurd e (h2 j hj)
  · exact ⟨fun _ => ⟨k, h2, h3⟩, fun _ => by omega⟩
/-- slices.Index. -/
theorem index_any (ao : Option Addr) (n cap : Nat) (xs : List Int) (x : Int) (w : World) (hr : Rd w ao n xs) (hn : n ≤ 1048576) :
    Calls Try.prog 76 #[.slice ao n cap, .int .i64 x] w fun e w' => ∃ r, e = .returned (.int .i64 r) ∧ FirstAt xs x r ∧ w = w' := by
  obtain ⟨hlen, hat⟩ := hr
  have HL := Lib.hid hlen; clear hlen
  have HA := Lib.hid hat; clear hat
  go_enter Try.func76, Try.ntmps76
  go_wp2
  go_loop [8] (fun i => ∃ k : Nat, k ≤ n ∧ i = .int .i64 k ∧ Hid (∀ j, j < k → xs.getD j 0 ≠ x)) (fun i => n - (intOf i).toNat)
  case atStart => exact ⟨0, Nat.zero_le _, rfl, fun j h => absurd h (by omega)⟩
  case round =>
    obtain ⟨k, hk, rfl, HY⟩ := hrel
    by_cases hlt : k < n
    · obtain ⟨b, off, rfl, hall⟩ := HA.out (by omega)
      have hck := hall k hlt
      clear hall
      obtain ⟨y, hy⟩ : ∃ y, y = xs.getD k 0 := ⟨_, rfl⟩
      rw [← hy] at hck
      have HYK := Lib.hid hy; clear hy
      by_cases hxy : x = y
      · have t1 : (x == y) = true := by simp [hxy]
        have hfin : FirstAt xs x k := .inr ⟨k, rfl, by rw [HL.out]; exact hlt, by rw [← HYK.out, hxy], HY.out⟩
        have HF := Lib.hid hfin; clear hfin hxy
        go_wp2
        go_ret
        exact ⟨_, rfl, HF.out, rfl⟩
      · have t1 : (x == y) = false := by simp [hxy]
        have hfin : ∀ j, j < k + 1 → xs.getD j 0 ≠ x := fun j hj => by
          by_cases e : j = k
          · rw [e, ← HYK.out]; exact fun h => hxy h.symm
          · exact HY.out j (by omega)
        have HF := Lib.hid hfin; clear hfin hxy
        go_wp2
        go_round
        case rel => exact ⟨k + 1, by omega, by go_num, HF⟩
        case measure => simp [intOf]; omega
    · have hkn : k = n := by omega
      subst hkn
      have hfin : FirstAt xs x (-1) := .inl ⟨rfl, fun j hj => HY.out j (by rw [← HL.out]; exact hj)⟩
      have HF := Lib.hid hfin; clear hfin
      go_wp2
      go_ret
      exact ⟨_, rfl, HF.out, rfl⟩
/-- slices.Contains. -/
theorem contains_any (ao : Option Addr) (n cap : Nat) (xs : List Int) (x : Int) (w : World) (hr : Rd w ao n xs) (hn : n ≤ 1048576) :
    Calls Try.prog 71 #[.slice ao n cap, .int .i64 x] w fun e w' => e = .returned (.bool (decide (x ∈ xs))) ∧ w = w' := by
  have HR := Lib.hid hr; clear hr
  go_enter Try.func71, Try.ntmps71
  go_wp2_with fail
  refine (index_any _ _ _ xs x _ HR.out hn).mono ?_
  rintro e w' ⟨r, rfl, hf, rfl⟩
  have HF := Lib.hid (firstAt_mem hf); clear hf
  go_wp2
  go_ret
  exact ⟨ret_bool HF.out, rfl⟩

end Go.Proofs.Ytilkopbfbmibgaa
