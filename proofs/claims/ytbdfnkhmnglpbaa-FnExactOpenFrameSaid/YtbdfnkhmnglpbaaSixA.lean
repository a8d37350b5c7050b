/-
  Chapter 6: the kinds of frames, of the program and of its model.
  Chapter 6: what the program asks of a kind through its interface; BodySize, KindOfHead, KindName, HasStateAndData of the program.
  Chapter 6: kinds and sizes of the model; BodySize, KindOfHead, KindName, HasStateAndData of the model.
-/
import Derived.Test.YtbdfnkhmnglpbaaFr1
import Derived.Test.YtbdfnkhmnglpbaaOne
import Derived.Test.YtbdfnkhmnglpbaaFourA
namespace Go.Proofs.Ytbdfnkhmnglpbaa
section
open Go.RowKit

/-- The value of a kind. -/
def kindVal (a : Int) : Value := if a = 0 then .iface 149 (.agg #[]) else if a = 1 then .iface 150 (.agg #[]) else if a = 2 then .iface 151 (.agg #[]) else if a = 3 then .iface 152 (.agg #[]) else .nilIface
theorem kindVal_none {a : Int} (h0 : a ≠ 0) (h1 : a ≠ 1) (h2 : a ≠ 2) (h3 : a ≠ 3) : kindVal a = .nilIface := by simp [kindVal, h0, h1, h2, h3]
theorem kindOk_none {a : Int} (h0 : a ≠ 0) (h1 : a ≠ 1) (h2 : a ≠ 2) (h3 : a ≠ 3) : kindOk a = false := by
  cases h : kindOk a
  · rfl
  · have := kindOk_four h; omega
theorem frameKindOf_any (a : Int) (w : World) : Calls Try.prog 110 #[.int .i64 a] w fun e w' => e = .returned (.tuple #[kindVal a, .bool (kindOk a)]) ∧ w = w' := by
  by_cases h0 : a = 0
  · subst h0
    go_enter Try.func110, Try.ntmps110
    go_wp2
    go_ret2
    exact ⟨rfl, rfl⟩
  by_cases h1 : a = 1
  · subst h1
    go_enter Try.func110, Try.ntmps110
    go_wp2
    go_ret2
    exact ⟨rfl, rfl⟩
  by_cases h2 : a = 2
  · subst h2
    go_enter Try.func110, Try.ntmps110
    go_wp2
    go_ret2
    exact ⟨rfl, rfl⟩
  by_cases h3 : a = 3
  · subst h3
    go_enter Try.func110, Try.ntmps110
    go_wp2
    go_ret2
    exact ⟨rfl, rfl⟩
  rw [kindVal_none h0 h1 h2 h3, kindOk_none h0 h1 h2 h3]
  have t0 : (a == 0) = false := by simp [h0]
  have t1 : (a == 1) = false := by simp [h1]
  have t2 : (a == 2) = false := by simp [h2]
  have t3 : (a == 3) = false := by simp [h3]
  clear h0 h1 h2 h3
  go_enter Try.func110, Try.ntmps110
  go_wp2
  go_ret2
  exact ⟨rfl, rfl⟩
theorem layoutOf_any (a : Int) (w : World) : Calls Try.prog 132 #[kindVal a] w fun e w' => e = .returned (.tuple #[.bool (hasState a), .bool (hasData a)]) ∧ w = w' := by
  by_cases h0 : a = 0
  · subst h0
    have q0 : ∀ w : World, (Instr.typeAssert (.iface 149 (.agg #[])) 126 149 true).run Try.prog w = .ok (.tuple #[.agg #[], .bool true]) w := fun _ => by kernel_rfl
    have q1 : ∀ w : World, (Instr.typeAssert (.iface 149 (.agg #[])) 126 150 true).run Try.prog w = .ok (.tuple #[.agg #[], .bool false]) w := fun _ => by kernel_rfl
    have q2 : ∀ w : World, (Instr.typeAssert (.iface 149 (.agg #[])) 126 151 true).run Try.prog w = .ok (.tuple #[.agg #[], .bool false]) w := fun _ => by kernel_rfl
    have q3 : ∀ w : World, (Instr.typeAssert (.iface 149 (.agg #[])) 126 152 true).run Try.prog w = .ok (.tuple #[.agg #[], .bool false]) w := fun _ => by kernel_rfl
    rw [show kindVal 0 = .iface 149 (.agg #[]) from rfl]
    go_enter Try.func132, Try.ntmps132
    go_wp2
    go_ret2
    exact ⟨rfl, rfl⟩
  by_cases h1 : a = 1
  · subst h1
    have q0 : ∀ w : World, (Instr.typeAssert (.iface 150 (.agg #[])) 126 149 true).run Try.prog w = .ok (.tuple #[.agg #[], .bool false]) w := fun _ => by kernel_rfl
    have q1 : ∀ w : World, (Instr.typeAssert (.iface 150 (.agg #[])) 126 150 true).run Try.prog w = .ok (.tuple #[.agg #[], .bool true]) w := fun _ => by kernel_rfl
    have q2 : ∀ w : World, (Instr.typeAssert (.iface 150 (.agg #[])) 126 151 true).run Try.prog w = .ok (.tuple #[.agg #[], .bool false]) w := fun _ => by kernel_rfl
    have q3 : ∀ w : World, (Instr.typeAssert (.iface 150 (.agg #[])) 126 152 true).run Try.prog w = .ok (.tuple #[.agg #[], .bool false]) w := fun _ => by kernel_rfl
    rw [show kindVal 1 = .iface 150 (.agg #[]) from rfl]
    go_enter Try.func132, Try.ntmps132
    go_wp2
    go_ret2
    exact ⟨rfl, rfl⟩
  by_cases h2 : a = 2
  · subst h2
    have q0 : ∀ w : World, (Instr.typeAssert (.iface 151 (.agg #[])) 126 149 true).run Try.prog w = .ok (.tuple #[.agg #[], .bool false]) w := fun _ => by kernel_rfl
    have q1 : ∀ w : World, (Instr.typeAssert (.iface 151 (.agg #[])) 126 150 true).run Try.prog w = .ok (.tuple #[.agg #[], .bool false]) w := fun _ => by kernel_rfl
    have q2 : ∀ w : World, (Instr.typeAssert (.iface 151 (.agg #[])) 126 151 true).run Try.prog w = .ok (.tuple #[.agg #[], .bool true]) w := fun _ => by kernel_rfl
    have q3 : ∀ w : World, (Instr.typeAssert (.iface 151 (.agg #[])) 126 152 true).run Try.prog w = .ok (.tuple #[.agg #[], .bool false]) w := fun _ => by kernel_rfl
    rw [show kindVal 2 = .iface 151 (.agg #[]) from rfl]
    go_enter Try.func132, Try.ntmps132
    go_wp2
    go_ret2
    exact ⟨rfl, rfl⟩
  by_cases h3 : a = 3
  · subst h3
    have q0 : ∀ w : World, (Instr.typeAssert (.iface 152 (.agg #[])) 126 149 true).run Try.prog w = .ok (.tuple #[.agg #[], .bool false]) w := fun _ => by kernel_rfl
    have q1 : ∀ w : World, (Instr.typeAssert (.iface 152 (.agg #[])) 126 150 true).run Try.prog w = .ok (.tuple #[.agg #[], .bool false]) w := fun _ => by kernel_rfl
    have q2 : ∀ w : World, (Instr.typeAssert (.iface 152 (.agg #[])) 126 151 true).run Try.prog w = .ok (.tuple #[.agg #[], .bool false]) w := fun _ => by kernel_rfl
    have q3 : ∀ w : World, (Instr.typeAssert (.iface 152 (.agg #[])) 126 152 true).run Try.prog w = .ok (.tuple #[.agg #[], .bool true]) w := fun _ => by kernel_rfl
    rw [show kindVal 3 = .iface 152 (.agg #[]) from rfl]
    go_enter Try.func132, Try.ntmps132
    go_wp2
    go_ret2
    exact ⟨rfl, rfl⟩
  rw [kindVal_none h0 h1 h2 h3]
  have e1 : hasState a = false := by simp [hasState, kindOk_none h0 h1 h2 h3]
  have e2 : hasData a = false := by simp [hasData, h0, h2]
  rw [e1, e2]
  clear h0 h1 h2 h3
  have q0 : ∀ w : World, (Instr.typeAssert .nilIface 126 149 true).run Try.prog w = .ok (.tuple #[.agg #[], .bool false]) w := fun _ => by kernel_rfl
  have q1 : ∀ w : World, (Instr.typeAssert .nilIface 126 150 true).run Try.prog w = .ok (.tuple #[.agg #[], .bool false]) w := fun _ => by kernel_rfl
  have q2 : ∀ w : World, (Instr.typeAssert .nilIface 126 151 true).run Try.prog w = .ok (.tuple #[.agg #[], .bool false]) w := fun _ => by kernel_rfl
  have q3 : ∀ w : World, (Instr.typeAssert .nilIface 126 152 true).run Try.prog w = .ok (.tuple #[.agg #[], .bool false]) w := fun _ => by kernel_rfl
  go_enter Try.func132, Try.ntmps132
  go_wp2
  go_ret2
  exact ⟨rfl, rfl⟩
end

section
open Go.RowKit

theorem limits0_any (w : World) : Calls Try.prog 179 #[.agg #[]] w fun e w' => e = .returned (.tuple #[.int .i64 0, .int .i64 32]) ∧ w' = w.alloc (.cells #[] 149) := by
  go_enter Try.func179, Try.ntmps179
  go_wp2
  go_ret2
  exact ⟨rfl, rfl⟩
theorem limits1_any (w : World) : Calls Try.prog 182 #[.agg #[]] w fun e w' => e = .returned (.tuple #[.int .i64 0, .int .i64 0]) ∧ w' = w.alloc (.cells #[] 150) := by
  go_enter Try.func182, Try.ntmps182
  go_wp2
  go_ret2
  exact ⟨rfl, rfl⟩
theorem limits2_any (w : World) : Calls Try.prog 185 #[.agg #[]] w fun e w' => e = .returned (.tuple #[.int .i64 1, .int .i64 32]) ∧ w' = w.alloc (.cells #[] 151) := by
  go_enter Try.func185, Try.ntmps185
  go_wp2
  go_ret2
  exact ⟨rfl, rfl⟩
theorem limits3_any (w : World) : Calls Try.prog 188 #[.agg #[]] w fun e w' => e = .returned (.tuple #[.int .i64 0, .int .i64 0]) ∧ w' = w.alloc (.cells #[] 152) := by
  go_enter Try.func188, Try.ntmps188
  go_wp2
  go_ret2
  exact ⟨rfl, rfl⟩
theorem hasDataSize0 (n : Int) (w : World) : Calls Try.prog 111 #[kindVal 0, .int .i64 n] w fun e w' => e = .returned (.bool (sizeOk 0 n)) ∧ Below w.heap.size w w' := by
  rw [show kindVal 0 = .iface 149 (.agg #[]) from rfl]
  have ha : ∀ w : World, (nilAhead 287 149 (.agg #[]) "loop.example/g00833/impl.dataLimits").run Try.prog w = .ok (some false) w := fun _ => by kernel_rfl
  have hm : ∀ w : World, (method 287 149 (.agg #[]) "loop.example/g00833/impl.dataLimits").run Try.prog w = .ok (179, .agg #[]) w := fun _ => by kernel_rfl
  have hs : (decide (0 ≤ n) && decide (n ≤ 32)) = sizeOk 0 n := by rfl
  rw [← hs]; clear hs
  by_cases h0 : 0 ≤ n
  · go_enter Try.func111, Try.ntmps111
    go_wp2_with (go_at_call 179; refine (limits0_any _).mono ?_; rintro e w1 ⟨rfl, rfl⟩)
    go_ret
    exact ⟨by simp [h0], (Below.refl _ _).alloc (Nat.le_refl _) _⟩
  · go_enter Try.func111, Try.ntmps111
    go_wp2_with (go_at_call 179; refine (limits0_any _).mono ?_; rintro e w1 ⟨rfl, rfl⟩)
    go_ret
    exact ⟨by rw [show decide (0 ≤ n) = false from decide_eq_false (by omega)]; rfl, (Below.refl _ _).alloc (Nat.le_refl _) _⟩
theorem hasDataSize1 (n : Int) (w : World) : Calls Try.prog 111 #[kindVal 1, .int .i64 n] w fun e w' => e = .returned (.bool (sizeOk 1 n)) ∧ Below w.heap.size w w' := by
  rw [show kindVal 1 = .iface 150 (.agg #[]) from rfl]
  have ha : ∀ w : World, (nilAhead 287 150 (.agg #[]) "loop.example/g00833/impl.dataLimits").run Try.prog w = .ok (some false) w := fun _ => by kernel_rfl
  have hm : ∀ w : World, (method 287 150 (.agg #[]) "loop.example/g00833/impl.dataLimits").run Try.prog w = .ok (182, .agg #[]) w := fun _ => by kernel_rfl
  have hs : (decide (0 ≤ n) && decide (n ≤ 0)) = sizeOk 1 n := by unfold sizeOk; rw [if_neg (by omega), if_neg (by omega), Bool.eq_iff_iff]; simp only [Bool.and_eq_true, decide_eq_true_eq]; omega
  rw [← hs]; clear hs
  by_cases h0 : 0 ≤ n
  · go_enter Try.func111, Try.ntmps111
    go_wp2_with (go_at_call 182; refine (limits1_any _).mono ?_; rintro e w1 ⟨rfl, rfl⟩)
    go_ret
    exact ⟨by simp [h0], (Below.refl _ _).alloc (Nat.le_refl _) _⟩
  · go_enter Try.func111, Try.ntmps111
    go_wp2_with (go_at_call 182; refine (limits1_any _).mono ?_; rintro e w1 ⟨rfl, rfl⟩)
    go_ret
    exact ⟨by rw [show decide (0 ≤ n) = false from decide_eq_false (by omega)]; rfl, (Below.refl _ _).alloc (Nat.le_refl _) _⟩
theorem hasDataSize2 (n : Int) (w : World) : Calls Try.prog 111 #[kindVal 2, .int .i64 n] w fun e w' => e = .returned (.bool (sizeOk 2 n)) ∧ Below w.heap.size w w' := by
  rw [show kindVal 2 = .iface 151 (.agg #[]) from rfl]
  have ha : ∀ w : World, (nilAhead 287 151 (.agg #[]) "loop.example/g00833/impl.dataLimits").run Try.prog w = .ok (some false) w := fun _ => by kernel_rfl
  have hm : ∀ w : World, (method 287 151 (.agg #[]) "loop.example/g00833/impl.dataLimits").run Try.prog w = .ok (185, .agg #[]) w := fun _ => by kernel_rfl
  have hs : (decide (1 ≤ n) && decide (n ≤ 32)) = sizeOk 2 n := by rfl
  rw [← hs]; clear hs
  by_cases h0 : 1 ≤ n
  · go_enter Try.func111, Try.ntmps111
    go_wp2_with (go_at_call 185; refine (limits2_any _).mono ?_; rintro e w1 ⟨rfl, rfl⟩)
    go_ret
    exact ⟨by simp [h0], (Below.refl _ _).alloc (Nat.le_refl _) _⟩
  · go_enter Try.func111, Try.ntmps111
    go_wp2_with (go_at_call 185; refine (limits2_any _).mono ?_; rintro e w1 ⟨rfl, rfl⟩)
    go_ret
    exact ⟨by rw [show decide (1 ≤ n) = false from decide_eq_false (by omega)]; rfl, (Below.refl _ _).alloc (Nat.le_refl _) _⟩
theorem hasDataSize3 (n : Int) (w : World) : Calls Try.prog 111 #[kindVal 3, .int .i64 n] w fun e w' => e = .returned (.bool (sizeOk 3 n)) ∧ Below w.heap.size w w' := by
  rw [show kindVal 3 = .iface 152 (.agg #[]) from rfl]
  have ha : ∀ w : World, (nilAhead 287 152 (.agg #[]) "loop.example/g00833/impl.dataLimits").run Try.prog w = .ok (some false) w := fun _ => by kernel_rfl
  have hm : ∀ w : World, (method 287 152 (.agg #[]) "loop.example/g00833/impl.dataLimits").run Try.prog w = .ok (188, .agg #[]) w := fun _ => by kernel_rfl
  have hs : (decide (0 ≤ n) && decide (n ≤ 0)) = sizeOk 3 n := by unfold sizeOk; rw [if_neg (by omega), if_neg (by omega), Bool.eq_iff_iff]; simp only [Bool.and_eq_true, decide_eq_true_eq]; omega
  rw [← hs]; clear hs
  by_cases h0 : 0 ≤ n
  · go_enter Try.func111, Try.ntmps111
    go_wp2_with (go_at_call 188; refine (limits3_any _).mono ?_; rintro e w1 ⟨rfl, rfl⟩)
    go_ret
    exact ⟨by simp [h0], (Below.refl _ _).alloc (Nat.le_refl _) _⟩
  · go_enter Try.func111, Try.ntmps111
    go_wp2_with (go_at_call 188; refine (limits3_any _).mono ?_; rintro e w1 ⟨rfl, rfl⟩)
    go_ret
    exact ⟨by rw [show decide (0 ≤ n) = false from decide_eq_false (by omega)]; rfl, (Below.refl _ _).alloc (Nat.le_refl _) _⟩
/-- Whether a frame of a kind may have so many data. -/
theorem hasDataSize_any (a n : Int) (w : World) (hk : kindOk a = true) : Calls Try.prog 111 #[kindVal a, .int .i64 n] w fun e w' => e = .returned (.bool (sizeOk a n)) ∧ Below w.heap.size w w' := by
  rcases kindOk_four hk with rfl | rfl | rfl | rfl
  · exact hasDataSize0 n w
  · exact hasDataSize1 n w
  · exact hasDataSize2 n w
  · exact hasDataSize3 n w
theorem hasStateAndData_any (a : Int) (w : World) : Calls Try.prog 88 #[.int .i64 a] w fun e w' => e = .returned (.tuple #[.bool (hasState a), .bool (hasData a)]) ∧ w = w' := by
  go_enter Try.func88, Try.ntmps88
  go_wp2_with (first | (go_at_call 110; refine (frameKindOf_any _ _).mono ?_; rintro e w1 ⟨rfl, rfl⟩) | (go_at_call 132; refine (layoutOf_any _ _).mono ?_; rintro e w1 ⟨rfl, rfl⟩))
  go_ret2
  exact ⟨rfl, rfl⟩
/-- What KindOfHead answers: the program shifts. -/
theorem kindOfHead_any (h : Int) (w : World) : Calls Try.prog 85 #[.int .i64 h] w fun e w' => e = .returned (.tuple #[.int .i64 (kindOfHead h).1, .int .i64 (kindOfHead h).2]) ∧ w = w' := by
  by_cases h0 : h < 0
  · rw [show kindOfHead h = (0, 2) from by unfold kindOfHead; rw [if_neg (by rw [inRange_iff]; omega)]]
    go_enter Try.func85, Try.ntmps85
    go_wp2
    go_ret2
    exact ⟨rfl, rfl⟩
  by_cases h1 : 255 < h
  · rw [show kindOfHead h = (0, 2) from by unfold kindOfHead; rw [if_neg (by rw [inRange_iff]; omega)]]
    go_enter Try.func85, Try.ntmps85
    go_wp2
    go_ret2
    exact ⟨rfl, rfl⟩
  rw [show kindOfHead h = (h / 64, 0) from by unfold kindOfHead; rw [if_pos (by rw [inRange_iff]; omega)]]
  go_enter Try.func85, Try.ntmps85
  go_wp2
  go_ret2
  exact ⟨rfl, rfl⟩
def kindName (a : Int) : ByteArray := if a = 0 then (⟨#[110, 111, 114, 109, 97, 108]⟩ : ByteArray) else if a = 1 then (⟨#[105, 110, 105, 116]⟩ : ByteArray) else if a = 2 then (⟨#[100, 97, 116, 97]⟩ : ByteArray) else if a = 3 then (⟨#[99, 111, 108, 100]⟩ : ByteArray) else ByteArray.empty
/-- BodySize of the program. -/
theorem bs_1 {a n : Int} (h : kindOk a = false) : bodySize a n = (0, 1) := by unfold bodySize; rw [if_pos h]
theorem bs_2 {a n : Int} (h : kindOk a = true) (h2 : sizeOk a n = false) : bodySize a n = (0, 2) := by unfold bodySize; rw [if_neg (by simp [h]), if_pos h2]
theorem bs_0 {a n : Int} (h : kindOk a = true) (h2 : sizeOk a n = true) : bodySize a n = (1 + (if hasState a = true then 8 else 0) + (if hasData a = true then 1 + n else 0), 0) := by unfold bodySize; rw [if_neg (by simp [h]), if_neg (by simp [h2])]
theorem bodySize_any (a n : Int) (w : World) : Calls Try.prog 89 #[.int .i64 a, .int .i64 n] w fun e w' => e = .returned (.tuple #[.int .i64 (bodySize a n).1, .int .i64 (bodySize a n).2]) ∧ Below w.heap.size w w' := by
  rcases hk : kindOk a with _ | _
  · rw [bs_1 hk]
    have hl := kindVal a
    go_enter Try.func89, Try.ntmps89
    go_wp2_with (go_at_call 110; refine (frameKindOf_any _ _).mono ?_; rintro e w1 ⟨rfl, rfl⟩; rw [hk])
    go_ret2
    exact ⟨rfl, Below.refl _ _⟩
  rcases hs : sizeOk a n with _ | _
  · rw [bs_2 hk hs]
    have HK := Lib.hid hk; have HS := Lib.hid hs; clear hk hs
    go_enter Try.func89, Try.ntmps89
    go_wp2_with (first | (go_at_call 110; refine (frameKindOf_any _ _).mono ?_; rintro e w1 ⟨rfl, rfl⟩; rw [HK.out]) | (go_at_call 111; refine (hasDataSize_any _ _ _ HK.out).mono ?_; rintro e w2 ⟨rfl, b2⟩; rw [HS.out]))
    go_ret2
    exact ⟨rfl, b2⟩
  have hn := sizeOk_le hs
  rw [bs_0 hk hs]
  have HK := Lib.hid hk; have HS := Lib.hid hs; clear hk hs
  have hw : IntKind.i64.wrap (1 + n) = 1 + n := by rw [IntKind.wrap_i64]; omega
  have hw1 : IntKind.i64.wrap (1 + (1 + n)) = 1 + (1 + n) := by rw [IntKind.wrap_i64]; omega
  have hw2 : IntKind.i64.wrap (9 + (1 + n)) = 9 + (1 + n) := by rw [IntKind.wrap_i64]; omega
  obtain ⟨x, hx⟩ : ∃ x, hasState a = x := ⟨_, rfl⟩
  obtain ⟨y, hy⟩ : ∃ y, hasData a = y := ⟨_, rfl⟩
  rw [hx, hy]
  have HX := Lib.hid hx; have HY := Lib.hid hy; clear hx hy
  cases x <;> cases y
  · go_enter Try.func89, Try.ntmps89
    go_wp2_with (first | (go_at_call 110; refine (frameKindOf_any _ _).mono ?_; rintro e w1 ⟨rfl, rfl⟩; rw [HK.out]) | (go_at_call 111; refine (hasDataSize_any _ _ _ HK.out).mono ?_; rintro e w2 ⟨rfl, b2⟩; rw [HS.out]) | (go_at_call 132; refine (layoutOf_any _ _).mono ?_; rintro e w3 ⟨rfl, rfl⟩; rw [HX.out, HY.out]))
    go_ret2
    exact ⟨by rfl, b2⟩
  · go_enter Try.func89, Try.ntmps89
    go_wp2_with (first | (go_at_call 110; refine (frameKindOf_any _ _).mono ?_; rintro e w1 ⟨rfl, rfl⟩; rw [HK.out]) | (go_at_call 111; refine (hasDataSize_any _ _ _ HK.out).mono ?_; rintro e w2 ⟨rfl, b2⟩; rw [HS.out]) | (go_at_call 132; refine (layoutOf_any _ _).mono ?_; rintro e w3 ⟨rfl, rfl⟩; rw [HX.out, HY.out]))
    go_ret2
    exact ⟨by rfl, b2⟩
  · go_enter Try.func89, Try.ntmps89
    go_wp2_with (first | (go_at_call 110; refine (frameKindOf_any _ _).mono ?_; rintro e w1 ⟨rfl, rfl⟩; rw [HK.out]) | (go_at_call 111; refine (hasDataSize_any _ _ _ HK.out).mono ?_; rintro e w2 ⟨rfl, b2⟩; rw [HS.out]) | (go_at_call 132; refine (layoutOf_any _ _).mono ?_; rintro e w3 ⟨rfl, rfl⟩; rw [HX.out, HY.out]))
    go_ret2
    exact ⟨by rfl, b2⟩
  · go_enter Try.func89, Try.ntmps89
    go_wp2_with (first | (go_at_call 110; refine (frameKindOf_any _ _).mono ?_; rintro e w1 ⟨rfl, rfl⟩; rw [HK.out]) | (go_at_call 111; refine (hasDataSize_any _ _ _ HK.out).mono ?_; rintro e w2 ⟨rfl, b2⟩; rw [HS.out]) | (go_at_call 132; refine (layoutOf_any _ _).mono ?_; rintro e w3 ⟨rfl, rfl⟩; rw [HX.out, HY.out]))
    go_ret2
    exact ⟨by rfl, b2⟩
end

section
open Go.RowKit

theorem l06Kind_any (a : Int) (w : World) : Calls Try.prog 105 #[.int .i64 a] w fun e w' => e = .returned (.bool (kindOk a)) ∧ w = w' := by
  go_enter Try.func105, Try.ntmps105
  go_wp2_with (go_at_call 107; refine (l01In_any _ _ _ _).mono ?_; rintro e w' ⟨rfl, rfl⟩)
  go_ret
  exact ⟨rfl, rfl⟩
theorem l06State_any (a : Int) (w : World) : Calls Try.prog 70 #[.int .i64 a] w fun e w' => e = .returned (.bool (a != 0)) ∧ w = w' := by
  go_enter Try.func70, Try.ntmps70
  go_wp2
  go_ret
  exact ⟨rfl, rfl⟩
theorem hasState_ne {a : Int} (h : kindOk a = true) : (a != 0) = hasState a := by
  unfold hasState
  rw [h, Bool.true_and, Bool.eq_iff_iff]
  simp
theorem l06Data_any (a : Int) (w : World) : Calls Try.prog 129 #[.int .i64 a] w fun e w' => e = .returned (.bool (hasData a)) ∧ w = w' := by
  have hd : hasData a = ((a == 0) || (a == 2)) := by unfold hasData; rw [Bool.eq_iff_iff]; simp
  rw [hd]
  clear hd
  rcases h0 : (a == 0) with _ | _
  · go_enter Try.func129, Try.ntmps129
    go_wp2
    go_ret
    exact ⟨rfl, rfl⟩
  · go_enter Try.func129, Try.ntmps129
    go_wp2
    go_ret
    exact ⟨rfl, rfl⟩
theorem l06Size_any (a n : Int) (w : World) : Calls Try.prog 106 #[.int .i64 a, .int .i64 n] w fun e w' => e = .returned (.bool (sizeOk a n)) ∧ w = w' := by
  by_cases h0 : a = 0
  · subst h0
    rw [show sizeOk 0 n = inRange 0 32 n from rfl]
    go_enter Try.func106, Try.ntmps106
    go_wp2_with (go_at_call 107; refine (l01In_any _ _ _ _).mono ?_; rintro e w' ⟨rfl, rfl⟩)
    go_ret
    exact ⟨rfl, rfl⟩
  by_cases h2 : a = 2
  · subst h2
    rw [show sizeOk 2 n = inRange 1 32 n from rfl]
    go_enter Try.func106, Try.ntmps106
    go_wp2_with (go_at_call 107; refine (l01In_any _ _ _ _).mono ?_; rintro e w' ⟨rfl, rfl⟩)
    go_ret
    exact ⟨rfl, rfl⟩
  rw [show sizeOk a n = (n == 0) from by unfold sizeOk; rw [if_neg h0, if_neg h2]; rfl]
  have t0 : (a == 0) = false := by simp [h0]
  have t2 : (a == 2) = false := by simp [h2]
  clear h0 h2
  go_enter Try.func106, Try.ntmps106
  go_wp2
  go_ret
  exact ⟨rfl, rfl⟩
theorem l06BodySize_any (a n : Int) (w : World) (hk : kindOk a = true) (hs : sizeOk a n = true) : Calls Try.prog 146 #[.int .i64 a, .int .i64 n] w fun e w' => e = .returned (.int .i64 (1 + (if hasState a = true then 8 else 0) + (if hasData a = true then 1 + n else 0))) ∧ w = w' := by
  have hn := sizeOk_le hs
  have hw : IntKind.i64.wrap (2 + n) = 1 + (1 + n) := by rw [IntKind.wrap_i64]; omega
  have hw2 : IntKind.i64.wrap (10 + n) = 9 + (1 + n) := by rw [IntKind.wrap_i64]; omega
  have hk' := hasState_ne hk
  obtain ⟨x, hx⟩ : ∃ x, hasState a = x := ⟨_, rfl⟩
  obtain ⟨y, hy⟩ : ∃ y, hasData a = y := ⟨_, rfl⟩
  rw [hx] at hk'
  rw [hx, hy]
  have HX := Lib.hid hk'; have HY := Lib.hid hy; clear hx hy hk' hk hs
  cases x <;> cases y
  · go_enter Try.func146, Try.ntmps146
    go_wp2_with (first | (go_at_call 70; refine (l06State_any _ _).mono ?_; rintro e w' ⟨rfl, rfl⟩; rw [HX.out]) | (go_at_call 129; refine (l06Data_any _ _).mono ?_; rintro e w' ⟨rfl, rfl⟩; rw [HY.out]))
    go_ret
    exact ⟨rfl, rfl⟩
  · go_enter Try.func146, Try.ntmps146
    go_wp2_with (first | (go_at_call 70; refine (l06State_any _ _).mono ?_; rintro e w' ⟨rfl, rfl⟩; rw [HX.out]) | (go_at_call 129; refine (l06Data_any _ _).mono ?_; rintro e w' ⟨rfl, rfl⟩; rw [HY.out]))
    go_ret
    exact ⟨rfl, rfl⟩
  · go_enter Try.func146, Try.ntmps146
    go_wp2_with (first | (go_at_call 70; refine (l06State_any _ _).mono ?_; rintro e w' ⟨rfl, rfl⟩; rw [HX.out]) | (go_at_call 129; refine (l06Data_any _ _).mono ?_; rintro e w' ⟨rfl, rfl⟩; rw [HY.out]))
    go_ret
    exact ⟨rfl, rfl⟩
  · go_enter Try.func146, Try.ntmps146
    go_wp2_with (first | (go_at_call 70; refine (l06State_any _ _).mono ?_; rintro e w' ⟨rfl, rfl⟩; rw [HX.out]) | (go_at_call 129; refine (l06Data_any _ _).mono ?_; rintro e w' ⟨rfl, rfl⟩; rw [HY.out]))
    go_ret
    exact ⟨rfl, rfl⟩
theorem sBodySize_any (a n : Int) (w : World) : Calls Try.prog 114 #[.int .i64 a, .int .i64 n] w fun e w' => e = .returned (.tuple #[.int .i64 (bodySize a n).1, .int .i64 (bodySize a n).2]) ∧ w = w' := by
  rcases hk : kindOk a with _ | _
  · rw [bs_1 hk]
    go_enter Try.func114, Try.ntmps114
    go_wp2_with (go_at_call 105; refine (l06Kind_any _ _).mono ?_; rintro e w' ⟨rfl, rfl⟩; rw [hk])
    go_ret2
    exact ⟨rfl, rfl⟩
  rcases hs : sizeOk a n with _ | _
  · rw [bs_2 hk hs]
    have HK := Lib.hid hk; have HS := Lib.hid hs; clear hk hs
    go_enter Try.func114, Try.ntmps114
    go_wp2_with (first | (go_at_call 105; refine (l06Kind_any _ _).mono ?_; rintro e w' ⟨rfl, rfl⟩; rw [HK.out]) | (go_at_call 106; refine (l06Size_any _ _ _).mono ?_; rintro e w' ⟨rfl, rfl⟩; rw [HS.out]))
    go_ret2
    exact ⟨rfl, rfl⟩
  rw [bs_0 hk hs]
  have hb := fun w => l06BodySize_any a n w hk hs
  generalize (1 + (if hasState a = true then 8 else 0) + (if hasData a = true then 1 + n else 0) : Int) = q at hb ⊢
  have HK := Lib.hid hk; have HS := Lib.hid hs; have HB := Lib.hid hb; clear hk hs hb
  go_enter Try.func114, Try.ntmps114
  go_wp2_with (first | (go_at_call 105; refine (l06Kind_any _ _).mono ?_; rintro e w' ⟨rfl, rfl⟩; rw [HK.out]) | (go_at_call 106; refine (l06Size_any _ _ _).mono ?_; rintro e w' ⟨rfl, rfl⟩; rw [HS.out]) | (go_at_call 146; refine (HB.out _).mono ?_; rintro e w' ⟨rfl, rfl⟩))
  go_ret2
  exact ⟨rfl, rfl⟩
theorem sBodySize_b (a n : Int) (w : World) : Calls Try.prog 114 #[.int .i64 a, .int .i64 n] w fun e w' => e = .returned (.tuple #[.int .i64 (bodySize a n).1, .int .i64 (bodySize a n).2]) ∧ Below w.heap.size w w' :=
  (sBodySize_any a n w).mono fun _ _ h => ⟨h.1, h.2 ▸ Below.refl _ _⟩
def stateAndData (a : Int) : Bool × Bool := (hasState a, hasData a)
theorem hasStateAndData_p (a : Int) (w : World) : Calls Try.prog 88 #[.int .i64 a] w fun e w' => e = .returned (.tuple #[.bool (stateAndData a).1, .bool (stateAndData a).2]) ∧ w = w' := hasStateAndData_any a w
end
end Go.Proofs.Ytbdfnkhmnglpbaa
