/-
  Chapter 5: the small functions on nodes and vectors, of the program and of its model.
-/
import Derived.Test.YtkidhilipeoliaaOne
import Derived.Test.YtkidhilipeoliaaBase
import Derived.Test.YtkidhilipeoliaaVec
namespace Go.Proofs.Ytkidhilipeoliaa
open Go.RowKit

theorem isNode_lo {k : Int} (h : k < 0) : isNode k = false := inR_low h
theorem isNode_hi {k : Int} (h : 31 < k) : isNode k = false := inR_high h
theorem isNode_yes {k : Int} (h0 : 0 ≤ k) (h1 : k ≤ 31) : isNode k = true := inR_true h0 h1
theorem isNode_nat {k : Int} (h : isNode k = true) : ∃ n : Nat, k = n ∧ n < 32 := by
  simp only [isNode, inR, Bool.and_eq_true, decide_eq_true_eq] at h
  exact ⟨k.toNat, by omega, by omega⟩
theorem isVec_nat {m : Int} (h : isVec m = true) : ∃ n : Nat, m = n ∧ n < 4294967296 := by
  simp only [isVec, inR, Bool.and_eq_true, decide_eq_true_eq] at h
  exact ⟨m.toNat, by omega, by omega⟩

/-- impl.isNode. -/
theorem isNode_any (k : Int) (w : World) : Calls Try.prog 55 #[.int .i64 k] w fun e w' => e = .returned (.bool (isNode k)) ∧ w = w' := by
  by_cases h0 : k < 0
  · rw [isNode_lo h0]
    go_enter Try.func55, Try.ntmps55
    go_wp2
    go_ret
    exact ⟨rfl, rfl⟩
  · by_cases h1 : 31 < k
    · rw [isNode_hi h1]
      go_enter Try.func55, Try.ntmps55
      go_wp2
      go_ret
      exact ⟨ret_bool (decide_eq_false (by omega)), rfl⟩
    · rw [isNode_yes (by omega) (by omega)]
      go_enter Try.func55, Try.ntmps55
      go_wp2
      go_ret
      exact ⟨ret_bool (decide_eq_true (by omega)), rfl⟩
/-- spec.l01In, any case. -/
theorem in_any (x lo hi : Int) (w : World) : Calls Try.prog 64 #[.int .i64 x, .int .i64 lo, .int .i64 hi] w fun e w' => e = .returned (.bool (decide (lo ≤ x) && decide (x ≤ hi))) ∧ w = w' := by
  by_cases h : lo ≤ x ∧ x ≤ hi
  · have e : (decide (lo ≤ x) && decide (x ≤ hi)) = true := by simp [h.1, h.2]
    rw [e]
    exact l01In_yes x lo hi w h.1 h.2
  · have e : (decide (lo ≤ x) && decide (x ≤ hi)) = false := by
      rw [Bool.and_eq_false_iff, decide_eq_false_iff_not, decide_eq_false_iff_not]; omega
    rw [e]
    exact l01In_no x lo hi w (by omega)
/-- spec.l05Node. -/
theorem l05Node_any (k : Int) (w : World) : Calls Try.prog 58 #[.int .i64 k] w fun e w' => e = .returned (.bool (isNode k)) ∧ w = w' := by
  go_enter Try.func58, Try.ntmps58
  go_wp2_with fail
  refine (in_any _ _ _ _).mono ?_
  rintro e w' ⟨rfl, rfl⟩
  go_wp2
  go_ret
  exact ⟨rfl, rfl⟩
/-- A vector's bit, by the program. -/
theorem has_any (m k : Nat) (w : World) (hk : k < 32) : Calls Try.prog 60 #[.int .i64 m, .int .i64 k] w fun e w' => e = .returned (.bool (m.testBit k)) ∧ w = w' := by
  have hk0 : (0 : Int) ≤ (k : Int) := by omega
  have hk1 : (k : Int) < 64 := by omega
  go_enter Try.func60, Try.ntmps60
  go_wp2
  go_ret
  exact ⟨ret_bool (bit_and m k), rfl⟩
/-- A vector with a node, by the program. -/
theorem with_any (m k : Nat) (w : World) (hm : m < 4294967296) (hk : k < 32) : Calls Try.prog 56 #[.int .i64 m, .int .i64 k] w fun e w' => e = .returned (.int .i64 (setN m k true : Nat)) ∧ w = w' := by
  have hk0 : (0 : Int) ≤ (k : Int) := by omega
  have hk1 : (k : Int) < 64 := by omega
  have hp := pow40 k (by omega)
  go_enter Try.func56, Try.ntmps56
  go_wp2
  go_ret
  exact ⟨ret_int (or_set m k hm hk), rfl⟩
/-- A vector without a node, by the program. -/
theorem without_any (m k : Nat) (w : World) (hm : m < 4294967296) (hk : k < 32) : Calls Try.prog 57 #[.int .i64 m, .int .i64 k] w fun e w' => e = .returned (.int .i64 (setN m k false : Nat)) ∧ w = w' := by
  have hk0 : (0 : Int) ≤ (k : Int) := by omega
  have hk1 : (k : Int) < 64 := by omega
  have hp := pow40 k (by omega)
  go_enter Try.func57, Try.ntmps57
  go_wp2
  go_ret
  exact ⟨ret_int (andNot_set m k hm hk), rfl⟩
/-- spec.l05Has. -/
theorem l05Has_any (m k : Nat) (w : World) (hk : k < 32) : Calls Try.prog 52 #[.int .i64 m, .int .i64 k] w fun e w' => e = .returned (.bool (m.testBit k)) ∧ w = w' := by
  have hk0 : (0 : Int) ≤ (k : Int) := by omega
  have hk1 : (k : Int) < 64 := by omega
  go_enter Try.func52, Try.ntmps52
  go_wp2
  go_ret
  exact ⟨ret_bool (bit_and m k), rfl⟩
/-- spec.l05Set. -/
theorem l05Set_any (m k : Nat) (b : Bool) (w : World) (hm : m < 4294967296) (hk : k < 32) : Calls Try.prog 59 #[.int .i64 m, .int .i64 k, .bool b] w fun e w' => e = .returned (.int .i64 (setN m k b : Nat)) ∧ w = w' := by
  have hk0 : (0 : Int) ≤ (k : Int) := by omega
  have hk1 : (k : Int) < 64 := by omega
  have hp := pow40 k (by omega)
  by_cases hc : m.testBit k = b
  · have hq : (m.testBit k == b) = true := by simp [hc]
    have hs : setN m k b = m := by unfold setN; rw [if_pos hc]
    rw [hs]
    clear hs hc
    go_enter Try.func59, Try.ntmps59
    go_wp2_with fail
    refine (l05Has_any m k _ hk).mono ?_
    rintro e w' ⟨rfl, rfl⟩
    go_wp2
    go_ret
    exact ⟨rfl, rfl⟩
  · have hq : (m.testBit k == b) = false := by simp [hc]
    have hs : setN m k b = m ^^^ 2 ^ k := by unfold setN; rw [if_neg hc]
    rw [hs]
    clear hs hc
    go_enter Try.func59, Try.ntmps59
    go_wp2_with fail
    refine (l05Has_any m k _ hk).mono ?_
    rintro e w' ⟨rfl, rfl⟩
    go_wp2
    go_ret
    exact ⟨ret_int (xor_set m k hm hk), rfl⟩
/-- impl.areVectors. -/
theorem areVectors_any (ao : Option Addr) (n cap : Nat) (xs : List Int) (w : World) (hr : Rd w ao n xs) (hn : n ≤ 9223372036854775807) :
    Calls Try.prog 49 #[.slice ao n cap] w fun e w' => e = .returned (.bool (areVecs xs)) ∧ w = w' := by
  go_enter Try.func49, Try.ntmps49
  go_wp2_with fail
  refine (isListWithin_any _ _ _ _ _ _ _ hr hn).mono ?_
  rintro e w' ⟨rfl, rfl⟩
  go_wp2
  go_ret
  exact ⟨rfl, rfl⟩
/-- spec.l05Vector. -/
theorem l05Vector_any (ao : Option Addr) (n cap : Nat) (xs : List Int) (w : World) (hr : Rd w ao n xs) (hn : n ≤ 9223372036854775807) :
    Calls Try.prog 51 #[.slice ao n cap] w fun e w' => e = .returned (.bool (allIn 4294967295 xs)) ∧ w = w' := by
  obtain ⟨hlen, hat⟩ := hr
  have HL := Lib.hid hlen; clear hlen
  have HA := Lib.hid hat; clear hat
  go_enter Try.func51, Try.ntmps51
  go_wp2
  go_loop [3] (fun i => ∃ k : Nat, k ≤ n ∧ i = .int .i64 k ∧ Hid (allIn 4294967295 (xs.take k) = true)) (fun i => n - (intOf i).toNat)
  case atStart => exact ⟨0, Nat.zero_le _, rfl, rfl⟩
  case round =>
    obtain ⟨k, hk, rfl, hall⟩ := hrel
    by_cases hlt : k < n
    · obtain ⟨b, off, rfl, hc⟩ := HA.out (by omega)
      have hck := hc k hlt
      clear hc HA
      have hkx : k < xs.length := by rw [HL.out]; exact hlt
      obtain ⟨x, hx⟩ : ∃ x, x = xs.getD k 0 := ⟨_, rfl⟩
      rw [← hx] at hck
      have HX := Lib.hid hx; clear hx
      have HK := Lib.hid hkx; clear hkx
      by_cases hin : 0 ≤ x ∧ x ≤ 4294967295
      · obtain ⟨hx0, hx1⟩ := hin
        go_wp2_with fail
        refine (l01In_yes _ _ _ _ hx0 hx1).mono ?_
        rintro e w' ⟨rfl, rfl⟩
        go_wp2
        go_round
        case rel => exact ⟨k + 1, by omega, by go_num, allIn_succ HK.out hall.out (by rw [← HX.out]; exact inR_true hx0 hx1)⟩
        case measure => simp [intOf]; omega
      · go_wp2_with fail
        refine (l01In_no _ _ _ _ (by omega)).mono ?_
        rintro e w' ⟨rfl, rfl⟩
        go_wp2
        go_ret
        refine ⟨ret_bool (allIn_no HK.out ?_).symm, rfl⟩
        rw [← HX.out]
        by_cases h0 : x < 0
        · exact inR_low h0
        · exact inR_high (by omega)
    · have hkn : k = n := by omega
      subst hkn
      go_wp2
      go_ret
      have hz := hall.out
      rw [List.take_of_length_le (by rw [HL.out]; exact Nat.le_refl _)] at hz
      exact ⟨ret_bool hz.symm, rfl⟩
end Go.Proofs.Ytkidhilipeoliaa
