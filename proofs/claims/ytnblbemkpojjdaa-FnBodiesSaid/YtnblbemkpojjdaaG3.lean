/-
  Chapter 6: kinds and sizes of the model; BodySize, KindOfHead, KindName, HasStateAndData of the model.
-/
import Derived.Test.YtnblbemkpojjdaaG2
namespace Go.Proofs.Ytnblbemkpojjdaa
open Go.RowKit

theorem l06Kind_any (a : Int) (w : World) : Calls Try.prog 47 #[.int .i64 a] w fun e w' => e = .returned (.bool (kindOk a)) ∧ w = w' := by
  go_enter Try.func47, Try.ntmps47
  go_wp2_with (go_at_call 48; refine (l01In_any _ _ _ _).mono ?_; rintro e w' ⟨rfl, rfl⟩)
  go_ret
  exact ⟨rfl, rfl⟩
theorem l06State_any (a : Int) (w : World) : Calls Try.prog 64 #[.int .i64 a] w fun e w' => e = .returned (.bool (a != 0)) ∧ w = w' := by
  go_enter Try.func64, Try.ntmps64
  go_wp2
  go_ret
  exact ⟨rfl, rfl⟩
theorem hasState_ne {a : Int} (h : kindOk a = true) : (a != 0) = hasState a := by
  unfold hasState
  rw [h, Bool.true_and, Bool.eq_iff_iff]
  simp
theorem l06Data_any (a : Int) (w : World) : Calls Try.prog 65 #[.int .i64 a] w fun e w' => e = .returned (.bool (hasData a)) ∧ w = w' := by
  have hd : hasData a = ((a == 0) || (a == 2)) := by unfold hasData; rw [Bool.eq_iff_iff]; simp
  rw [hd]
  clear hd
  rcases h0 : (a == 0) with _ | _
  · go_enter Try.func65, Try.ntmps65
    go_wp2
    go_ret
    exact ⟨rfl, rfl⟩
  · go_enter Try.func65, Try.ntmps65
    go_wp2
    go_ret
    exact ⟨rfl, rfl⟩
theorem l06Size_any (a n : Int) (w : World) : Calls Try.prog 49 #[.int .i64 a, .int .i64 n] w fun e w' => e = .returned (.bool (sizeOk a n)) ∧ w = w' := by
  by_cases h0 : a = 0
  · subst h0
    rw [show sizeOk 0 n = inRange 0 32 n from rfl]
    go_enter Try.func49, Try.ntmps49
    go_wp2_with (go_at_call 48; refine (l01In_any _ _ _ _).mono ?_; rintro e w' ⟨rfl, rfl⟩)
    go_ret
    exact ⟨rfl, rfl⟩
  by_cases h2 : a = 2
  · subst h2
    rw [show sizeOk 2 n = inRange 1 32 n from rfl]
    go_enter Try.func49, Try.ntmps49
    go_wp2_with (go_at_call 48; refine (l01In_any _ _ _ _).mono ?_; rintro e w' ⟨rfl, rfl⟩)
    go_ret
    exact ⟨rfl, rfl⟩
  rw [show sizeOk a n = (n == 0) from by unfold sizeOk; rw [if_neg h0, if_neg h2]; rfl]
  have t0 : (a == 0) = false := by simp [h0]
  have t2 : (a == 2) = false := by simp [h2]
  clear h0 h2
  go_enter Try.func49, Try.ntmps49
  go_wp2
  go_ret
  exact ⟨rfl, rfl⟩
theorem sHasStateAndData_any (a : Int) (w : World) : Calls Try.prog 38 #[.int .i64 a] w fun e w' => e = .returned (.tuple #[.bool (hasState a), .bool (hasData a)]) ∧ w = w' := by
  rcases hk : kindOk a with _ | _
  · have h1 : hasState a = false := by simp [hasState, hk]
    have h2 : hasData a = false := by
      have := mt inRange_iff.2 (by rw [show inRange 0 3 a = false from hk]; simp)
      unfold hasData; exact decide_eq_false (by omega)
    rw [h1, h2]
    have HK := Lib.hid hk; clear hk h1 h2
    go_enter Try.func38, Try.ntmps38
    go_wp2_with (go_at_call 47; refine (l06Kind_any _ _).mono ?_; rintro e w' ⟨rfl, rfl⟩; rw [HK.out])
    go_ret2
    exact ⟨rfl, rfl⟩
  · rw [← hasState_ne hk]
    have HK := Lib.hid hk; clear hk
    go_enter Try.func38, Try.ntmps38
    go_wp2_with (first | (go_at_call 47; refine (l06Kind_any _ _).mono ?_; rintro e w' ⟨rfl, rfl⟩; rw [HK.out]) | (go_at_call 64; refine (l06State_any _ _).mono ?_; rintro e w' ⟨rfl, rfl⟩) | (go_at_call 65; refine (l06Data_any _ _).mono ?_; rintro e w' ⟨rfl, rfl⟩))
    go_ret2
    exact ⟨rfl, rfl⟩
theorem sKindOfHead_any (h : Int) (w : World) : Calls Try.prog 35 #[.int .i64 h] w fun e w' => e = .returned (.tuple #[.int .i64 (kindOfHead h).1, .int .i64 (kindOfHead h).2]) ∧ w = w' := by
  rcases hr : inRange 0 255 h with _ | _
  · rw [show kindOfHead h = (0, 2) from by unfold kindOfHead; rw [if_neg (by simp [hr])]]
    go_enter Try.func35, Try.ntmps35
    go_wp2_with (go_at_call 48; refine (l01In_any _ _ _ _).mono ?_; rintro e w' ⟨rfl, rfl⟩; rw [hr])
    go_ret2
    exact ⟨rfl, rfl⟩
  · rw [show kindOfHead h = (h / 64, 0) from by unfold kindOfHead; rw [if_pos hr]]
    have hb := inRange_iff.1 hr
    have hd : IntKind.i64.wrap (h.tdiv 64) = h / 64 := by rw [Int.tdiv_eq_ediv_of_nonneg hb.1, IntKind.wrap_i64]; omega
    have HR := Lib.hid hr; clear hr hb
    go_enter Try.func35, Try.ntmps35
    go_wp2_with (go_at_call 48; refine (l01In_any _ _ _ _).mono ?_; rintro e w' ⟨rfl, rfl⟩; rw [HR.out])
    go_ret2
    exact ⟨rfl, rfl⟩
theorem sKindName_any (a : Int) (w : World) : Calls Try.prog 36 #[.int .i64 a] w fun e w' => e = .returned (.string (kindName a)) ∧ Below w.heap.size w w' := by
  rcases hk : kindOk a with _ | _
  · have h1 : kindName a = ByteArray.empty := by
      have := mt inRange_iff.2 (by rw [show inRange 0 3 a = false from hk]; simp)
      unfold kindName; rw [if_neg (by omega), if_neg (by omega), if_neg (by omega), if_neg (by omega)]
    rw [h1]
    have HK := Lib.hid hk; clear hk h1
    go_enter Try.func36, Try.ntmps36
    go_wp2_with (go_at_call 47; refine (l06Kind_any _ _).mono ?_; rintro e w' ⟨rfl, rfl⟩; rw [HK.out])
    go_ret
    exact ⟨rfl, Below.refl _ _⟩
  · have HK := Lib.hid hk
    rcases kindOk_four hk with rfl | rfl | rfl | rfl
    · clear hk
      go_enter Try.func36, Try.ntmps36
      go_wp2_with (go_at_call 47; refine (l06Kind_any _ _).mono ?_; rintro e w' ⟨rfl, rfl⟩; rw [HK.out])
      go_ret
      exact ⟨rfl, (Below.refl _ _).alloc (Nat.le_refl _) _⟩
    · clear hk
      go_enter Try.func36, Try.ntmps36
      go_wp2_with (go_at_call 47; refine (l06Kind_any _ _).mono ?_; rintro e w' ⟨rfl, rfl⟩; rw [HK.out])
      go_ret
      exact ⟨rfl, (Below.refl _ _).alloc (Nat.le_refl _) _⟩
    · clear hk
      go_enter Try.func36, Try.ntmps36
      go_wp2_with (go_at_call 47; refine (l06Kind_any _ _).mono ?_; rintro e w' ⟨rfl, rfl⟩; rw [HK.out])
      go_ret
      exact ⟨rfl, (Below.refl _ _).alloc (Nat.le_refl _) _⟩
    · clear hk
      go_enter Try.func36, Try.ntmps36
      go_wp2_with (go_at_call 47; refine (l06Kind_any _ _).mono ?_; rintro e w' ⟨rfl, rfl⟩; rw [HK.out])
      go_ret
      exact ⟨rfl, (Below.refl _ _).alloc (Nat.le_refl _) _⟩
theorem l06BodySize_any (a n : Int) (w : World) (hk : kindOk a = true) (hs : sizeOk a n = true) : Calls Try.prog 63 #[.int .i64 a, .int .i64 n] w fun e w' => e = .returned (.int .i64 (1 + (if hasState a = true then 8 else 0) + (if hasData a = true then 1 + n else 0))) ∧ w = w' := by
  have hn := sizeOk_le hs
  have hw : IntKind.i64.wrap (2 + n) = 1 + (1 + n) := by rw [IntKind.wrap_i64]; omega
  have hw2 : IntKind.i64.wrap (10 + n) = 9 + (1 + n) := by rw [IntKind.wrap_i64]; omega
  have hk' := hasState_ne hk
  obtain ⟨x, hx⟩ : ∃ x, hasState a = x := ⟨_, rfl⟩
  obtain ⟨y, hy⟩ : ∃ y, hasData a = y := ⟨_, rfl⟩
  rw [hx] at hk'
  rw [hx, hy]
  have HX := Lib.hid hk'; have HY := Lib.hid hy; clear hx hy hk' hk hs
  cases x <;> cases y
  · go_enter Try.func63, Try.ntmps63
    go_wp2_with (first | (go_at_call 64; refine (l06State_any _ _).mono ?_; rintro e w' ⟨rfl, rfl⟩; rw [HX.out]) | (go_at_call 65; refine (l06Data_any _ _).mono ?_; rintro e w' ⟨rfl, rfl⟩; rw [HY.out]))
    go_ret
    exact ⟨rfl, rfl⟩
  · go_enter Try.func63, Try.ntmps63
    go_wp2_with (first | (go_at_call 64; refine (l06State_any _ _).mono ?_; rintro e w' ⟨rfl, rfl⟩; rw [HX.out]) | (go_at_call 65; refine (l06Data_any _ _).mono ?_; rintro e w' ⟨rfl, rfl⟩; rw [HY.out]))
    go_ret
    exact ⟨rfl, rfl⟩
  · go_enter Try.func63, Try.ntmps63
    go_wp2_with (first | (go_at_call 64; refine (l06State_any _ _).mono ?_; rintro e w' ⟨rfl, rfl⟩; rw [HX.out]) | (go_at_call 65; refine (l06Data_any _ _).mono ?_; rintro e w' ⟨rfl, rfl⟩; rw [HY.out]))
    go_ret
    exact ⟨rfl, rfl⟩
  · go_enter Try.func63, Try.ntmps63
    go_wp2_with (first | (go_at_call 64; refine (l06State_any _ _).mono ?_; rintro e w' ⟨rfl, rfl⟩; rw [HX.out]) | (go_at_call 65; refine (l06Data_any _ _).mono ?_; rintro e w' ⟨rfl, rfl⟩; rw [HY.out]))
    go_ret
    exact ⟨rfl, rfl⟩
theorem sBodySize_any (a n : Int) (w : World) : Calls Try.prog 34 #[.int .i64 a, .int .i64 n] w fun e w' => e = .returned (.tuple #[.int .i64 (bodySize a n).1, .int .i64 (bodySize a n).2]) ∧ w = w' := by
  rcases hk : kindOk a with _ | _
  · rw [bs_1 hk]
    go_enter Try.func34, Try.ntmps34
    go_wp2_with (go_at_call 47; refine (l06Kind_any _ _).mono ?_; rintro e w' ⟨rfl, rfl⟩; rw [hk])
    go_ret2
    exact ⟨rfl, rfl⟩
  rcases hs : sizeOk a n with _ | _
  · rw [bs_2 hk hs]
    have HK := Lib.hid hk; have HS := Lib.hid hs; clear hk hs
    go_enter Try.func34, Try.ntmps34
    go_wp2_with (first | (go_at_call 47; refine (l06Kind_any _ _).mono ?_; rintro e w' ⟨rfl, rfl⟩; rw [HK.out]) | (go_at_call 49; refine (l06Size_any _ _ _).mono ?_; rintro e w' ⟨rfl, rfl⟩; rw [HS.out]))
    go_ret2
    exact ⟨rfl, rfl⟩
  rw [bs_0 hk hs]
  have hb := fun w => l06BodySize_any a n w hk hs
  generalize (1 + (if hasState a = true then 8 else 0) + (if hasData a = true then 1 + n else 0) : Int) = q at hb ⊢
  have HK := Lib.hid hk; have HS := Lib.hid hs; have HB := Lib.hid hb; clear hk hs hb
  go_enter Try.func34, Try.ntmps34
  go_wp2_with (first | (go_at_call 47; refine (l06Kind_any _ _).mono ?_; rintro e w' ⟨rfl, rfl⟩; rw [HK.out]) | (go_at_call 49; refine (l06Size_any _ _ _).mono ?_; rintro e w' ⟨rfl, rfl⟩; rw [HS.out]) | (go_at_call 63; refine (HB.out _).mono ?_; rintro e w' ⟨rfl, rfl⟩))
  go_ret2
  exact ⟨rfl, rfl⟩
theorem sBodySize_b (a n : Int) (w : World) : Calls Try.prog 34 #[.int .i64 a, .int .i64 n] w fun e w' => e = .returned (.tuple #[.int .i64 (bodySize a n).1, .int .i64 (bodySize a n).2]) ∧ Below w.heap.size w w' :=
  (sBodySize_any a n w).mono fun _ _ h => ⟨h.1, h.2 ▸ Below.refl _ _⟩
def stateAndData (a : Int) : Bool × Bool := (hasState a, hasData a)
theorem hasStateAndData_p (a : Int) (w : World) : Calls Try.prog 39 #[.int .i64 a] w fun e w' => e = .returned (.tuple #[.bool (stateAndData a).1, .bool (stateAndData a).2]) ∧ w = w' := hasStateAndData_any a w
theorem sHasStateAndData_p (a : Int) (w : World) : Calls Try.prog 38 #[.int .i64 a] w fun e w' => e = .returned (.tuple #[.bool (stateAndData a).1, .bool (stateAndData a).2]) ∧ w = w' := sHasStateAndData_any a w
end Go.Proofs.Ytnblbemkpojjdaa
