/-
  Chapter 6: what the program asks of a kind through its interface; BodySize, KindOfHead, KindName, HasStateAndData of the program.
-/
import Derived.Test.YtnblbemkpojjdaaG1
namespace Go.Proofs.Ytnblbemkpojjdaa
open Go.RowKit

theorem limits0_any (w : World) : Calls Try.prog 106 #[.agg #[]] w fun e w' => e = .returned (.tuple #[.int .i64 0, .int .i64 32]) ∧ w' = w.alloc (.cells #[] 86) := by
  go_enter Try.func106, Try.ntmps106
  go_wp2
  go_ret2
  exact ⟨rfl, rfl⟩
theorem limits1_any (w : World) : Calls Try.prog 109 #[.agg #[]] w fun e w' => e = .returned (.tuple #[.int .i64 0, .int .i64 0]) ∧ w' = w.alloc (.cells #[] 87) := by
  go_enter Try.func109, Try.ntmps109
  go_wp2
  go_ret2
  exact ⟨rfl, rfl⟩
theorem limits2_any (w : World) : Calls Try.prog 113 #[.agg #[]] w fun e w' => e = .returned (.tuple #[.int .i64 1, .int .i64 32]) ∧ w' = w.alloc (.cells #[] 88) := by
  go_enter Try.func113, Try.ntmps113
  go_wp2
  go_ret2
  exact ⟨rfl, rfl⟩
theorem limits3_any (w : World) : Calls Try.prog 116 #[.agg #[]] w fun e w' => e = .returned (.tuple #[.int .i64 0, .int .i64 0]) ∧ w' = w.alloc (.cells #[] 89) := by
  go_enter Try.func116, Try.ntmps116
  go_wp2
  go_ret2
  exact ⟨rfl, rfl⟩
theorem hasDataSize0 (n : Int) (w : World) : Calls Try.prog 45 #[kindVal 0, .int .i64 n] w fun e w' => e = .returned (.bool (sizeOk 0 n)) ∧ Below w.heap.size w w' := by
  rw [show kindVal 0 = .iface 86 (.agg #[]) from rfl]
  have ha : ∀ w : World, (nilAhead 224 86 (.agg #[]) "loop.example/g00833/impl.dataLimits").run Try.prog w = .ok (some false) w := fun _ => by kernel_rfl
  have hm : ∀ w : World, (method 224 86 (.agg #[]) "loop.example/g00833/impl.dataLimits").run Try.prog w = .ok (106, .agg #[]) w := fun _ => by kernel_rfl
  have hs : (decide (0 ≤ n) && decide (n ≤ 32)) = sizeOk 0 n := by rfl
  rw [← hs]; clear hs
  by_cases h0 : 0 ≤ n
  · go_enter Try.func45, Try.ntmps45
    go_wp2_with (go_at_call 106; refine (limits0_any _).mono ?_; rintro e w1 ⟨rfl, rfl⟩)
    go_ret
    exact ⟨by simp [h0], (Below.refl _ _).alloc (Nat.le_refl _) _⟩
  · go_enter Try.func45, Try.ntmps45
    go_wp2_with (go_at_call 106; refine (limits0_any _).mono ?_; rintro e w1 ⟨rfl, rfl⟩)
    go_ret
    exact ⟨by rw [show decide (0 ≤ n) = false from decide_eq_false (by omega)]; rfl, (Below.refl _ _).alloc (Nat.le_refl _) _⟩
theorem hasDataSize1 (n : Int) (w : World) : Calls Try.prog 45 #[kindVal 1, .int .i64 n] w fun e w' => e = .returned (.bool (sizeOk 1 n)) ∧ Below w.heap.size w w' := by
  rw [show kindVal 1 = .iface 87 (.agg #[]) from rfl]
  have ha : ∀ w : World, (nilAhead 224 87 (.agg #[]) "loop.example/g00833/impl.dataLimits").run Try.prog w = .ok (some false) w := fun _ => by kernel_rfl
  have hm : ∀ w : World, (method 224 87 (.agg #[]) "loop.example/g00833/impl.dataLimits").run Try.prog w = .ok (109, .agg #[]) w := fun _ => by kernel_rfl
  have hs : (decide (0 ≤ n) && decide (n ≤ 0)) = sizeOk 1 n := by unfold sizeOk; rw [if_neg (by omega), if_neg (by omega), Bool.eq_iff_iff]; simp only [Bool.and_eq_true, decide_eq_true_eq]; omega
  rw [← hs]; clear hs
  by_cases h0 : 0 ≤ n
  · go_enter Try.func45, Try.ntmps45
    go_wp2_with (go_at_call 109; refine (limits1_any _).mono ?_; rintro e w1 ⟨rfl, rfl⟩)
    go_ret
    exact ⟨by simp [h0], (Below.refl _ _).alloc (Nat.le_refl _) _⟩
  · go_enter Try.func45, Try.ntmps45
    go_wp2_with (go_at_call 109; refine (limits1_any _).mono ?_; rintro e w1 ⟨rfl, rfl⟩)
    go_ret
    exact ⟨by rw [show decide (0 ≤ n) = false from decide_eq_false (by omega)]; rfl, (Below.refl _ _).alloc (Nat.le_refl _) _⟩
theorem hasDataSize2 (n : Int) (w : World) : Calls Try.prog 45 #[kindVal 2, .int .i64 n] w fun e w' => e = .returned (.bool (sizeOk 2 n)) ∧ Below w.heap.size w w' := by
  rw [show kindVal 2 = .iface 88 (.agg #[]) from rfl]
  have ha : ∀ w : World, (nilAhead 224 88 (.agg #[]) "loop.example/g00833/impl.dataLimits").run Try.prog w = .ok (some false) w := fun _ => by kernel_rfl
  have hm : ∀ w : World, (method 224 88 (.agg #[]) "loop.example/g00833/impl.dataLimits").run Try.prog w = .ok (113, .agg #[]) w := fun _ => by kernel_rfl
  have hs : (decide (1 ≤ n) && decide (n ≤ 32)) = sizeOk 2 n := by rfl
  rw [← hs]; clear hs
  by_cases h0 : 1 ≤ n
  · go_enter Try.func45, Try.ntmps45
    go_wp2_with (go_at_call 113; refine (limits2_any _).mono ?_; rintro e w1 ⟨rfl, rfl⟩)
    go_ret
    exact ⟨by simp [h0], (Below.refl _ _).alloc (Nat.le_refl _) _⟩
  · go_enter Try.func45, Try.ntmps45
    go_wp2_with (go_at_call 113; refine (limits2_any _).mono ?_; rintro e w1 ⟨rfl, rfl⟩)
    go_ret
    exact ⟨by rw [show decide (1 ≤ n) = false from decide_eq_false (by omega)]; rfl, (Below.refl _ _).alloc (Nat.le_refl _) _⟩
theorem hasDataSize3 (n : Int) (w : World) : Calls Try.prog 45 #[kindVal 3, .int .i64 n] w fun e w' => e = .returned (.bool (sizeOk 3 n)) ∧ Below w.heap.size w w' := by
  rw [show kindVal 3 = .iface 89 (.agg #[]) from rfl]
  have ha : ∀ w : World, (nilAhead 224 89 (.agg #[]) "loop.example/g00833/impl.dataLimits").run Try.prog w = .ok (some false) w := fun _ => by kernel_rfl
  have hm : ∀ w : World, (method 224 89 (.agg #[]) "loop.example/g00833/impl.dataLimits").run Try.prog w = .ok (116, .agg #[]) w := fun _ => by kernel_rfl
  have hs : (decide (0 ≤ n) && decide (n ≤ 0)) = sizeOk 3 n := by unfold sizeOk; rw [if_neg (by omega), if_neg (by omega), Bool.eq_iff_iff]; simp only [Bool.and_eq_true, decide_eq_true_eq]; omega
  rw [← hs]; clear hs
  by_cases h0 : 0 ≤ n
  · go_enter Try.func45, Try.ntmps45
    go_wp2_with (go_at_call 116; refine (limits3_any _).mono ?_; rintro e w1 ⟨rfl, rfl⟩)
    go_ret
    exact ⟨by simp [h0], (Below.refl _ _).alloc (Nat.le_refl _) _⟩
  · go_enter Try.func45, Try.ntmps45
    go_wp2_with (go_at_call 116; refine (limits3_any _).mono ?_; rintro e w1 ⟨rfl, rfl⟩)
    go_ret
    exact ⟨by rw [show decide (0 ≤ n) = false from decide_eq_false (by omega)]; rfl, (Below.refl _ _).alloc (Nat.le_refl _) _⟩
/-- Whether a frame of a kind may have so many data. -/
theorem hasDataSize_any (a n : Int) (w : World) (hk : kindOk a = true) : Calls Try.prog 45 #[kindVal a, .int .i64 n] w fun e w' => e = .returned (.bool (sizeOk a n)) ∧ Below w.heap.size w w' := by
  rcases kindOk_four hk with rfl | rfl | rfl | rfl
  · exact hasDataSize0 n w
  · exact hasDataSize1 n w
  · exact hasDataSize2 n w
  · exact hasDataSize3 n w
theorem hasStateAndData_any (a : Int) (w : World) : Calls Try.prog 39 #[.int .i64 a] w fun e w' => e = .returned (.tuple #[.bool (hasState a), .bool (hasData a)]) ∧ w = w' := by
  go_enter Try.func39, Try.ntmps39
  go_wp2_with (first | (go_at_call 44; refine (frameKindOf_any _ _).mono ?_; rintro e w1 ⟨rfl, rfl⟩) | (go_at_call 55; refine (layoutOf_any _ _).mono ?_; rintro e w1 ⟨rfl, rfl⟩))
  go_ret2
  exact ⟨rfl, rfl⟩
/-- What KindOfHead answers: the program shifts. -/
theorem kindOfHead_any (h : Int) (w : World) : Calls Try.prog 21 #[.int .i64 h] w fun e w' => e = .returned (.tuple #[.int .i64 (kindOfHead h).1, .int .i64 (kindOfHead h).2]) ∧ w = w' := by
  by_cases h0 : h < 0
  · rw [show kindOfHead h = (0, 2) from by unfold kindOfHead; rw [if_neg (by rw [inRange_iff]; omega)]]
    go_enter Try.func21, Try.ntmps21
    go_wp2
    go_ret2
    exact ⟨rfl, rfl⟩
  by_cases h1 : 255 < h
  · rw [show kindOfHead h = (0, 2) from by unfold kindOfHead; rw [if_neg (by rw [inRange_iff]; omega)]]
    go_enter Try.func21, Try.ntmps21
    go_wp2
    go_ret2
    exact ⟨rfl, rfl⟩
  rw [show kindOfHead h = (h / 64, 0) from by unfold kindOfHead; rw [if_pos (by rw [inRange_iff]; omega)]]
  go_enter Try.func21, Try.ntmps21
  go_wp2
  go_ret2
  exact ⟨rfl, rfl⟩
def kindName (a : Int) : ByteArray := if a = 0 then (⟨#[110, 111, 114, 109, 97, 108]⟩ : ByteArray) else if a = 1 then (⟨#[105, 110, 105, 116]⟩ : ByteArray) else if a = 2 then (⟨#[100, 97, 116, 97]⟩ : ByteArray) else if a = 3 then (⟨#[99, 111, 108, 100]⟩ : ByteArray) else ByteArray.empty
theorem name0_any (w : World) : Calls Try.prog 107 #[.agg #[]] w fun e w' => e = .returned (.string (kindName 0)) ∧ w' = w.alloc (.cells #[] 86) := by
  go_enter Try.func107, Try.ntmps107
  go_wp2
  go_ret
  exact ⟨rfl, rfl⟩
theorem name1_any (w : World) : Calls Try.prog 110 #[.agg #[]] w fun e w' => e = .returned (.string (kindName 1)) ∧ w' = w.alloc (.cells #[] 87) := by
  go_enter Try.func110, Try.ntmps110
  go_wp2
  go_ret
  exact ⟨rfl, rfl⟩
theorem name2_any (w : World) : Calls Try.prog 114 #[.agg #[]] w fun e w' => e = .returned (.string (kindName 2)) ∧ w' = w.alloc (.cells #[] 88) := by
  go_enter Try.func114, Try.ntmps114
  go_wp2
  go_ret
  exact ⟨rfl, rfl⟩
theorem name3_any (w : World) : Calls Try.prog 117 #[.agg #[]] w fun e w' => e = .returned (.string (kindName 3)) ∧ w' = w.alloc (.cells #[] 89) := by
  go_enter Try.func117, Try.ntmps117
  go_wp2
  go_ret
  exact ⟨rfl, rfl⟩
theorem kindName0 (w : World) : Calls Try.prog 37 #[.int .i64 0] w fun e w' => e = .returned (.string (kindName 0)) ∧ Below w.heap.size w w' := by
  have ha : ∀ w : World, (nilAhead 224 86 (.agg #[]) "loop.example/g00833/impl.name").run Try.prog w = .ok (some false) w := fun _ => by kernel_rfl
  have hm : ∀ w : World, (method 224 86 (.agg #[]) "loop.example/g00833/impl.name").run Try.prog w = .ok (107, .agg #[]) w := fun _ => by kernel_rfl
  have hk : kindVal 0 = .iface 86 (.agg #[]) := rfl
  go_enter Try.func37, Try.ntmps37
  go_wp2_with (first | (go_at_call 44; refine (frameKindOf_any _ _).mono ?_; rintro e w1 ⟨rfl, rfl⟩; rw [hk, show kindOk 0 = true from rfl]) | (go_at_call 107; refine (name0_any _).mono ?_; rintro e w1 ⟨rfl, rfl⟩))
  go_ret
  exact ⟨rfl, (Below.refl _ _).alloc (Nat.le_refl _) _⟩
theorem kindName1 (w : World) : Calls Try.prog 37 #[.int .i64 1] w fun e w' => e = .returned (.string (kindName 1)) ∧ Below w.heap.size w w' := by
  have ha : ∀ w : World, (nilAhead 224 87 (.agg #[]) "loop.example/g00833/impl.name").run Try.prog w = .ok (some false) w := fun _ => by kernel_rfl
  have hm : ∀ w : World, (method 224 87 (.agg #[]) "loop.example/g00833/impl.name").run Try.prog w = .ok (110, .agg #[]) w := fun _ => by kernel_rfl
  have hk : kindVal 1 = .iface 87 (.agg #[]) := rfl
  go_enter Try.func37, Try.ntmps37
  go_wp2_with (first | (go_at_call 44; refine (frameKindOf_any _ _).mono ?_; rintro e w1 ⟨rfl, rfl⟩; rw [hk, show kindOk 1 = true from rfl]) | (go_at_call 110; refine (name1_any _).mono ?_; rintro e w1 ⟨rfl, rfl⟩))
  go_ret
  exact ⟨rfl, (Below.refl _ _).alloc (Nat.le_refl _) _⟩
theorem kindName2 (w : World) : Calls Try.prog 37 #[.int .i64 2] w fun e w' => e = .returned (.string (kindName 2)) ∧ Below w.heap.size w w' := by
  have ha : ∀ w : World, (nilAhead 224 88 (.agg #[]) "loop.example/g00833/impl.name").run Try.prog w = .ok (some false) w := fun _ => by kernel_rfl
  have hm : ∀ w : World, (method 224 88 (.agg #[]) "loop.example/g00833/impl.name").run Try.prog w = .ok (114, .agg #[]) w := fun _ => by kernel_rfl
  have hk : kindVal 2 = .iface 88 (.agg #[]) := rfl
  go_enter Try.func37, Try.ntmps37
  go_wp2_with (first | (go_at_call 44; refine (frameKindOf_any _ _).mono ?_; rintro e w1 ⟨rfl, rfl⟩; rw [hk, show kindOk 2 = true from rfl]) | (go_at_call 114; refine (name2_any _).mono ?_; rintro e w1 ⟨rfl, rfl⟩))
  go_ret
  exact ⟨rfl, (Below.refl _ _).alloc (Nat.le_refl _) _⟩
theorem kindName3 (w : World) : Calls Try.prog 37 #[.int .i64 3] w fun e w' => e = .returned (.string (kindName 3)) ∧ Below w.heap.size w w' := by
  have ha : ∀ w : World, (nilAhead 224 89 (.agg #[]) "loop.example/g00833/impl.name").run Try.prog w = .ok (some false) w := fun _ => by kernel_rfl
  have hm : ∀ w : World, (method 224 89 (.agg #[]) "loop.example/g00833/impl.name").run Try.prog w = .ok (117, .agg #[]) w := fun _ => by kernel_rfl
  have hk : kindVal 3 = .iface 89 (.agg #[]) := rfl
  go_enter Try.func37, Try.ntmps37
  go_wp2_with (first | (go_at_call 44; refine (frameKindOf_any _ _).mono ?_; rintro e w1 ⟨rfl, rfl⟩; rw [hk, show kindOk 3 = true from rfl]) | (go_at_call 117; refine (name3_any _).mono ?_; rintro e w1 ⟨rfl, rfl⟩))
  go_ret
  exact ⟨rfl, (Below.refl _ _).alloc (Nat.le_refl _) _⟩
theorem kindName_any (a : Int) (w : World) : Calls Try.prog 37 #[.int .i64 a] w fun e w' => e = .returned (.string (kindName a)) ∧ Below w.heap.size w w' := by
  by_cases h0 : a = 0
  · subst h0; exact kindName0 w
  by_cases h1 : a = 1
  · subst h1; exact kindName1 w
  by_cases h2 : a = 2
  · subst h2; exact kindName2 w
  by_cases h3 : a = 3
  · subst h3; exact kindName3 w
  rw [show kindName a = ByteArray.empty from by simp [kindName, h0, h1, h2, h3]]
  have hk := kindOk_none h0 h1 h2 h3
  have hv := kindVal_none h0 h1 h2 h3
  clear h0 h1 h2 h3
  go_enter Try.func37, Try.ntmps37
  go_wp2_with (go_at_call 44; refine (frameKindOf_any _ _).mono ?_; rintro e w1 ⟨rfl, rfl⟩; rw [hk, hv])
  go_ret
  exact ⟨rfl, Below.refl _ _⟩
/-- BodySize of the program. -/
theorem bs_1 {a n : Int} (h : kindOk a = false) : bodySize a n = (0, 1) := by unfold bodySize; rw [if_pos h]
theorem bs_2 {a n : Int} (h : kindOk a = true) (h2 : sizeOk a n = false) : bodySize a n = (0, 2) := by unfold bodySize; rw [if_neg (by simp [h]), if_pos h2]
theorem bs_0 {a n : Int} (h : kindOk a = true) (h2 : sizeOk a n = true) : bodySize a n = (1 + (if hasState a = true then 8 else 0) + (if hasData a = true then 1 + n else 0), 0) := by unfold bodySize; rw [if_neg (by simp [h]), if_neg (by simp [h2])]
theorem bodySize_any (a n : Int) (w : World) : Calls Try.prog 20 #[.int .i64 a, .int .i64 n] w fun e w' => e = .returned (.tuple #[.int .i64 (bodySize a n).1, .int .i64 (bodySize a n).2]) ∧ Below w.heap.size w w' := by
  rcases hk : kindOk a with _ | _
  · rw [bs_1 hk]
    have hl := kindVal a
    go_enter Try.func20, Try.ntmps20
    go_wp2_with (go_at_call 44; refine (frameKindOf_any _ _).mono ?_; rintro e w1 ⟨rfl, rfl⟩; rw [hk])
    go_ret2
    exact ⟨rfl, Below.refl _ _⟩
  rcases hs : sizeOk a n with _ | _
  · rw [bs_2 hk hs]
    have HK := Lib.hid hk; have HS := Lib.hid hs; clear hk hs
    go_enter Try.func20, Try.ntmps20
    go_wp2_with (first | (go_at_call 44; refine (frameKindOf_any _ _).mono ?_; rintro e w1 ⟨rfl, rfl⟩; rw [HK.out]) | (go_at_call 45; refine (hasDataSize_any _ _ _ HK.out).mono ?_; rintro e w2 ⟨rfl, b2⟩; rw [HS.out]))
    go_ret2
    exact ⟨rfl, b2⟩
  have hn := sizeOk_le hs
  rw [bs_0 hk hs]
  have HK := Lib.hid hk; have HS := Lib.hid hs; clear hk hs
  have hw : IntKind.i64.wrap (1 + n) = 1 + n := by rw [IntKind.wrap_i64]; omega
  have hw1 : IntKind.i64.wrap (1 + (1 + n)) = 1 + (1 + n) := by rw [IntKind.wrap_i64]; omega
  have hw2 : IntKind.i64.wrap (9 + (1 + n)) = 9 + (1 + n) := by rw [IntKind.wrap_i64]; omega
  obtain ⟨x, hx⟩ : ∃ x, hasState a = x := ⟨_, rfl⟩
  obtain ⟨y, hy⟩ : ∃ y, hasData a = y := ⟨_, rfl⟩
  rw [hx, hy]
  have HX := Lib.hid hx; have HY := Lib.hid hy; clear hx hy
  cases x <;> cases y
  · go_enter Try.func20, Try.ntmps20
    go_wp2_with (first | (go_at_call 44; refine (frameKindOf_any _ _).mono ?_; rintro e w1 ⟨rfl, rfl⟩; rw [HK.out]) | (go_at_call 45; refine (hasDataSize_any _ _ _ HK.out).mono ?_; rintro e w2 ⟨rfl, b2⟩; rw [HS.out]) | (go_at_call 55; refine (layoutOf_any _ _).mono ?_; rintro e w3 ⟨rfl, rfl⟩; rw [HX.out, HY.out]))
    go_ret2
    exact ⟨by rfl, b2⟩
  · go_enter Try.func20, Try.ntmps20
    go_wp2_with (first | (go_at_call 44; refine (frameKindOf_any _ _).mono ?_; rintro e w1 ⟨rfl, rfl⟩; rw [HK.out]) | (go_at_call 45; refine (hasDataSize_any _ _ _ HK.out).mono ?_; rintro e w2 ⟨rfl, b2⟩; rw [HS.out]) | (go_at_call 55; refine (layoutOf_any _ _).mono ?_; rintro e w3 ⟨rfl, rfl⟩; rw [HX.out, HY.out]))
    go_ret2
    exact ⟨by rfl, b2⟩
  · go_enter Try.func20, Try.ntmps20
    go_wp2_with (first | (go_at_call 44; refine (frameKindOf_any _ _).mono ?_; rintro e w1 ⟨rfl, rfl⟩; rw [HK.out]) | (go_at_call 45; refine (hasDataSize_any _ _ _ HK.out).mono ?_; rintro e w2 ⟨rfl, b2⟩; rw [HS.out]) | (go_at_call 55; refine (layoutOf_any _ _).mono ?_; rintro e w3 ⟨rfl, rfl⟩; rw [HX.out, HY.out]))
    go_ret2
    exact ⟨by rfl, b2⟩
  · go_enter Try.func20, Try.ntmps20
    go_wp2_with (first | (go_at_call 44; refine (frameKindOf_any _ _).mono ?_; rintro e w1 ⟨rfl, rfl⟩; rw [HK.out]) | (go_at_call 45; refine (hasDataSize_any _ _ _ HK.out).mono ?_; rintro e w2 ⟨rfl, b2⟩; rw [HS.out]) | (go_at_call 55; refine (layoutOf_any _ _).mono ?_; rintro e w3 ⟨rfl, rfl⟩; rw [HX.out, HY.out]))
    go_ret2
    exact ⟨by rfl, b2⟩
end Go.Proofs.Ytnblbemkpojjdaa
