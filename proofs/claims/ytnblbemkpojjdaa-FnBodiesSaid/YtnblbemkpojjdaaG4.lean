/-
  Chapter 6: what the program's kinds allow.
-/
import Derived.Test.YtnblbemkpojjdaaG3
import Derived.Test.YtnblbemkpojjdaaFiv
namespace Go.Proofs.Ytnblbemkpojjdaa
open Go.RowKit

theorem normal_allows (q t m r s k : Int) (w : World) : Calls Try.prog 105 #[.agg #[], .agg #[.int .i64 t, .int .i64 m, .int .i64 r, .int .i64 s, .int .i64 k], .int .i64 q] w fun e w' => e = .returned (.bool (stateOk 0 q t m r s k)) ∧ Below w.heap.size w w' := by
  have he := fun w => state_eql t m r s k 0 0 0 0 0 w
  rw [show stateOk 0 q t m r s k = (decide (t = 0) && (decide (m = 0) && (decide (r = 0) && (decide (s = 0) && decide (k = 0))))) from by rw [show stateOk 0 q t m r s k = decide (t = 0 ∧ m = 0 ∧ r = 0 ∧ s = 0 ∧ k = 0) from rfl]; simp only [Bool.decide_and]]
  go_enter Try.func105, Try.ntmps105
  go_wp2
  go_ret
  exact ⟨rfl, ((Below.refl _ _).alloc (Nat.le_refl _) _).alloc (by simp) _⟩
theorem init_allows (q t m r s k : Int) (w : World) : Calls Try.prog 108 #[.agg #[], .agg #[.int .i64 t, .int .i64 m, .int .i64 r, .int .i64 s, .int .i64 k], .int .i64 q] w fun e w' => e = .returned (.bool (stateOk 1 q t m r s k)) ∧ Below w.heap.size w w' := by
  rw [show stateOk 1 q t m r s k = isState t m r s k from rfl]
  go_enter Try.func108, Try.ntmps108
  go_wp2_with fail
  refine (isState_any _ _ _ _ _ _).mono ?_
  rintro e w1 ⟨rfl, b1⟩
  go_wp2
  go_ret
  exact ⟨rfl, below_box2 b1⟩
theorem data_allows (q t m r s k : Int) (w : World) : Calls Try.prog 112 #[.agg #[], .agg #[.int .i64 t, .int .i64 m, .int .i64 r, .int .i64 s, .int .i64 k], .int .i64 q] w fun e w' => e = .returned (.bool (stateOk 2 q t m r s k)) ∧ Below w.heap.size w w' := by
  rw [show stateOk 2 q t m r s k = isState t m r s k from rfl]
  go_enter Try.func112, Try.ntmps112
  go_wp2_with fail
  refine (isState_any _ _ _ _ _ _).mono ?_
  rintro e w1 ⟨rfl, b1⟩
  go_wp2
  go_ret
  exact ⟨rfl, below_box2 b1⟩
theorem state_box {T : Nat} {o : Obj} {w w' : World} {t m r s k : Int} (h : Below ((w.alloc o).alloc (.cells #[.int .i64 t, .int .i64 m, .int .i64 r, .int .i64 s, .int .i64 k] T)).heap.size ((w.alloc o).alloc (.cells #[.int .i64 t, .int .i64 m, .int .i64 r, .int .i64 s, .int .i64 k] T)) w') : StateAt T w' (w.heap.size + 1) t m r s k := by
  have e : (w.alloc o).heap.size = w.heap.size + 1 := by simp
  have := (StateAt.new (T := T) (t := t) (m := m) (r := r) (s := s) (k := k) (w.alloc o)).below h (by simp)
  rwa [e] at this
theorem so3 (q t m r s k : Int) : stateOk 3 q t m r s k = (decide (q = 0) && (isState t m r s k && (decide (m = 0) && decide ((nodesTo k.toNat 32).length = 1)))) := rfl
theorem cold_allows (q t m r s k : Int) (w : World) : Calls Try.prog 115 #[.agg #[], .agg #[.int .i64 t, .int .i64 m, .int .i64 r, .int .i64 s, .int .i64 k], .int .i64 q] w fun e w' => e = .returned (.bool (stateOk 3 q t m r s k)) ∧ Below w.heap.size w w' := by
  rw [so3]
  by_cases h0 : q = 0
  rotate_left
  · have t0 : (q == 0) = false := by simp [h0]
    rw [show decide (q = 0) = false from decide_eq_false h0, Bool.false_and]
    clear h0
    go_enter Try.func115, Try.ntmps115
    go_wp2
    go_ret
    exact ⟨rfl, ((Below.refl _ _).alloc (Nat.le_refl _) _).alloc (by simp) _⟩
  subst h0
  rcases hs : isState t m r s k with _ | _
  · have HS := Lib.hid hs; clear hs
    go_enter Try.func115, Try.ntmps115
    go_wp2_with (go_at_call 111; refine (isState_any _ _ _ _ _ _).mono ?_; rintro e w1 ⟨rfl, b1⟩; rw [HS.out])
    go_ret
    exact ⟨rfl, below_box2 b1⟩
  have hst := isState_iff.1 hs
  obtain ⟨k, rfl⟩ := Int.eq_ofNat_of_zero_le hst.2.2.2.2.1
  rw [show ((k : Nat) : Int).toNat = k from by omega]
  have hlen : (nodesTo k 32).length ≤ 32 := nodesTo_len k 32
  have HS := Lib.hid hs; clear hs hst
  generalize hxs : nodesTo k 32 = xs at hlen ⊢
  have HX := Lib.hid hxs; clear hxs
  by_cases h1 : m = 0
  rotate_left
  · have t1 : (m == 0) = false := by simp [h1]
    rw [show decide (m = 0) = false from decide_eq_false h1, Bool.false_and, Bool.and_false, Bool.and_false]
    clear h1
    go_enter Try.func115, Try.ntmps115
    go_wp2_with (go_at_call 111; refine (isState_any _ _ _ _ _ _).mono ?_; rintro e w1 ⟨rfl, b1⟩; rw [HS.out]; have c1 := (state_box b1).c1)
    go_ret
    exact ⟨rfl, below_box2 b1⟩
  subst h1
  have hl : ((xs.length : Int) == 1) = decide (xs.length = 1) := by rw [Bool.eq_iff_iff]; simp; omega
  rw [show (decide ((0 : Int) = 0) && (true && (decide ((0 : Int) = 0) && decide (xs.length = 1)))) = decide (xs.length = 1) from by simp]
  go_enter Try.func115, Try.ntmps115
  go_wp2_with (first
    | (go_at_call 111; refine (isState_any _ _ _ _ _ _).mono ?_; rintro e w1 ⟨rfl, b1⟩; rw [HS.out]; have c1 := (state_box b1).c1; have c4 := (state_box b1).c4)
    | (go_at_call 118; refine (nodes_any _ _).mono ?_; rintro e w2 m2; rw [HX.out] at m2; obtain ⟨p2, cp2, rfl, -, -, b2⟩ := m2.get))
  go_ret
  exact ⟨rfl, below_two (below_box2 b1) b2⟩
end Go.Proofs.Ytnblbemkpojjdaa
