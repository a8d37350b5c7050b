/-
  Chapter 6: IsFrame of the model.
  Chapter 6: what the laws do with frames: copied, compared, marked, measured.
  Chapter 6: frames compared, marked and measured by the laws.
  A struct of two numbers, a struct of five numbers and a slice of numbers among a law's arguments: opened to its parts. No program is named here.
-/
import Derived.Test.YtbdfnkhmnglpbaaSixB
import Derived.Test.YtbdfnkhmnglpbaaDrawA
import Derived.Test.YtbdfnkhmnglpbaaFourA
import Derived.ChangeSlices
namespace Go.Proofs.Ytbdfnkhmnglpbaa
section
open Go.RowKit

theorem if_bytes {a q t m r s k : Int} {xs : List Int} (h : isBytes xs = false) : isFrame ⟨a, q, t, m, r, s, k, xs⟩ = false := by simp [isFrame, h]
theorem if_all' {a q t m r s k : Int} {xs : List Int} (h1 : kindOk a = true) (h2 : inRange 0 7 q = true) (h3 : sizeOk a xs.length = true) (h4 : isBytes xs = true) : isFrame ⟨a, q, t, m, r, s, k, xs⟩ = stateOk a q t m r s k := by simp [isFrame, h1, h2, h3, h4]
theorem members_nat {k : Nat} (h : (k : Int) ≤ 4294967295) : membersOf (k : Int) = (nodesTo k 32, 0) := by
  unfold membersOf
  rw [if_pos (isVec_iff.2 ⟨by omega, h⟩), show ((k : Nat) : Int).toNat = k from by omega]
set_option maxRecDepth 100000 in
theorem sIsFrame_no (a q t m r s k : Int) (ao : Option Addr) (cap : Nat) (xs : List Int) (w : World) (hr : Rd w ao xs.length xs) (hn : xs.length ≤ 1048576) (h : kindOk a = true → inRange 0 7 q = true → sizeOk a xs.length = true → isBytes xs = false) : Calls Try.prog 109 #[.agg #[.int .i64 a, .int .i64 q, .int .i64 t, .int .i64 m, .int .i64 r, .int .i64 s, .int .i64 k, .slice ao xs.length cap]] w fun e w' => e = .returned (.bool (false)) ∧ Below w.heap.size w w' := by
  have hb : Below w.heap.size w (w.alloc (.cells #[.int .i64 a, .int .i64 q, .int .i64 t, .int .i64 m, .int .i64 r, .int .i64 s, .int .i64 k, .slice ao xs.length cap] 28)) := (Below.refl _ _).alloc (Nat.le_refl _) _
  have HR := Lib.hid (hr.below hb); clear hb hr
  have HH := Lib.hid h; clear h
  rcases hk : kindOk a with _ | _
  · have HK := Lib.hid hk; clear hk HH
    go_enter Try.func109, Try.ntmps109
    go_wp2_with (go_at_call 105; refine (l06Kind_any _ _).mono ?_; rintro e w1 ⟨rfl, rfl⟩; rw [HK.out])
    go_ret
    exact ⟨rfl, (Below.refl _ _).alloc (Nat.le_refl _) _⟩
  rcases hq : inRange 0 7 q with _ | _
  · have HK := Lib.hid hk; have HQ := Lib.hid hq; clear hk hq HH
    go_enter Try.func109, Try.ntmps109
    go_wp2_with (first | (go_at_call 105; refine (l06Kind_any _ _).mono ?_; rintro e w1 ⟨rfl, rfl⟩; rw [HK.out]) | (go_at_call 107; refine (l01In_any _ _ _ _).mono ?_; rintro e w1 ⟨rfl, rfl⟩; rw [HQ.out]))
    go_ret
    exact ⟨rfl, (Below.refl _ _).alloc (Nat.le_refl _) _⟩
  rcases hz : sizeOk a xs.length with _ | _
  · have HK := Lib.hid hk; have HQ := Lib.hid hq; have HZ := Lib.hid hz; clear hk hq hz HH
    go_enter Try.func109, Try.ntmps109
    go_wp2_with (first | (go_at_call 105; refine (l06Kind_any _ _).mono ?_; rintro e w1 ⟨rfl, rfl⟩; rw [HK.out]) | (go_at_call 107; refine (l01In_any _ _ _ _).mono ?_; rintro e w1 ⟨rfl, rfl⟩; rw [HQ.out]) | (go_at_call 106; refine (l06Size_any _ _ _).mono ?_; rintro e w1 ⟨rfl, rfl⟩; rw [HZ.out]))
    go_ret
    exact ⟨rfl, (Below.refl _ _).alloc (Nat.le_refl _) _⟩
  have hy := HH.out hk hq hz
  have HK := Lib.hid hk; have HQ := Lib.hid hq; have HZ := Lib.hid hz; have HY := Lib.hid hy; clear hk hq hz hy HH
  go_enter Try.func109, Try.ntmps109
  go_wp2_with (first | (go_at_call 105; refine (l06Kind_any _ _).mono ?_; rintro e w1 ⟨rfl, rfl⟩; rw [HK.out]) | (go_at_call 107; refine (l01In_any _ _ _ _).mono ?_; rintro e w1 ⟨rfl, rfl⟩; rw [HQ.out]) | (go_at_call 106; refine (l06Size_any _ _ _).mono ?_; rintro e w1 ⟨rfl, rfl⟩; rw [HZ.out]) | (go_at_call 92; refine (sIsBytes_any _ _ _ _ _ HR.out (by omega)).mono ?_; rintro e w1 ⟨rfl, rfl⟩; rw [HY.out]))
  go_ret
  exact ⟨rfl, (Below.refl _ _).alloc (Nat.le_refl _) _⟩
set_option maxRecDepth 100000 in
theorem sIsFrame0 (q t m r s k : Int) (ao : Option Addr) (cap : Nat) (xs : List Int) (w : World) (hr : Rd w ao xs.length xs) (hn : xs.length ≤ 1048576) (hk : kindOk 0 = true) (hq : inRange 0 7 q = true) (hz : sizeOk 0 xs.length = true) (hy : isBytes xs = true) : Calls Try.prog 109 #[.agg #[.int .i64 0, .int .i64 q, .int .i64 t, .int .i64 m, .int .i64 r, .int .i64 s, .int .i64 k, .slice ao xs.length cap]] w fun e w' => e = .returned (.bool (stateOk 0 q t m r s k)) ∧ Below w.heap.size w w' := by
  have he := fun w => state_eql t m r s k 0 0 0 0 0 w
  rw [show stateOk 0 q t m r s k = (decide (t = 0) && (decide (m = 0) && (decide (r = 0) && (decide (s = 0) && decide (k = 0))))) from by rw [show stateOk 0 q t m r s k = decide (t = 0 ∧ m = 0 ∧ r = 0 ∧ s = 0 ∧ k = 0) from rfl]; simp only [Bool.decide_and]]
  have hb : Below w.heap.size w (w.alloc (.cells #[.int .i64 0, .int .i64 q, .int .i64 t, .int .i64 m, .int .i64 r, .int .i64 s, .int .i64 k, .slice ao xs.length cap] 28)) := (Below.refl _ _).alloc (Nat.le_refl _) _
  have HR := Lib.hid (hr.below hb); clear hb hr
  have HK := Lib.hid hk; have HQ := Lib.hid hq; have HZ := Lib.hid hz; have HY := Lib.hid hy; clear hk hq hz hy
  go_enter Try.func109, Try.ntmps109
  go_wp2_with (first | (go_at_call 105; refine (l06Kind_any _ _).mono ?_; rintro e w1 ⟨rfl, rfl⟩; rw [HK.out]) | (go_at_call 107; refine (l01In_any _ _ _ _).mono ?_; rintro e w1 ⟨rfl, rfl⟩; rw [HQ.out]) | (go_at_call 106; refine (l06Size_any _ _ _).mono ?_; rintro e w1 ⟨rfl, rfl⟩; rw [HZ.out]) | (go_at_call 92; refine (sIsBytes_any _ _ _ _ _ HR.out (by omega)).mono ?_; rintro e w1 ⟨rfl, rfl⟩; rw [HY.out]))
  go_ret
  exact ⟨rfl, (Below.refl _ _).alloc (Nat.le_refl _) _⟩
set_option maxRecDepth 100000 in
theorem sIsFrame1 (q t m r s k : Int) (ao : Option Addr) (cap : Nat) (xs : List Int) (w : World) (hr : Rd w ao xs.length xs) (hn : xs.length ≤ 1048576) (hk : kindOk 1 = true) (hq : inRange 0 7 q = true) (hz : sizeOk 1 xs.length = true) (hy : isBytes xs = true) : Calls Try.prog 109 #[.agg #[.int .i64 1, .int .i64 q, .int .i64 t, .int .i64 m, .int .i64 r, .int .i64 s, .int .i64 k, .slice ao xs.length cap]] w fun e w' => e = .returned (.bool (stateOk 1 q t m r s k)) ∧ Below w.heap.size w w' := by
  rw [show stateOk 1 q t m r s k = isState t m r s k from rfl]
  have hb : Below w.heap.size w (w.alloc (.cells #[.int .i64 1, .int .i64 q, .int .i64 t, .int .i64 m, .int .i64 r, .int .i64 s, .int .i64 k, .slice ao xs.length cap] 28)) := (Below.refl _ _).alloc (Nat.le_refl _) _
  have HR := Lib.hid (hr.below hb); clear hb hr
  have HK := Lib.hid hk; have HQ := Lib.hid hq; have HZ := Lib.hid hz; have HY := Lib.hid hy; clear hk hq hz hy
  go_enter Try.func109, Try.ntmps109
  go_wp2_with (first | (go_at_call 105; refine (l06Kind_any _ _).mono ?_; rintro e w1 ⟨rfl, rfl⟩; rw [HK.out]) | (go_at_call 107; refine (l01In_any _ _ _ _).mono ?_; rintro e w1 ⟨rfl, rfl⟩; rw [HQ.out]) | (go_at_call 106; refine (l06Size_any _ _ _).mono ?_; rintro e w1 ⟨rfl, rfl⟩; rw [HZ.out]) | (go_at_call 92; refine (sIsBytes_any _ _ _ _ _ HR.out (by omega)).mono ?_; rintro e w1 ⟨rfl, rfl⟩; rw [HY.out]) | (go_at_call 71; refine (sIsState_any _ _ _ _ _ _).mono ?_; rintro e w2 ⟨rfl, b2⟩))
  go_ret
  exact ⟨rfl, below_box b2⟩
set_option maxRecDepth 100000 in
theorem sIsFrame2 (q t m r s k : Int) (ao : Option Addr) (cap : Nat) (xs : List Int) (w : World) (hr : Rd w ao xs.length xs) (hn : xs.length ≤ 1048576) (hk : kindOk 2 = true) (hq : inRange 0 7 q = true) (hz : sizeOk 2 xs.length = true) (hy : isBytes xs = true) : Calls Try.prog 109 #[.agg #[.int .i64 2, .int .i64 q, .int .i64 t, .int .i64 m, .int .i64 r, .int .i64 s, .int .i64 k, .slice ao xs.length cap]] w fun e w' => e = .returned (.bool (stateOk 2 q t m r s k)) ∧ Below w.heap.size w w' := by
  rw [show stateOk 2 q t m r s k = isState t m r s k from rfl]
  have hb : Below w.heap.size w (w.alloc (.cells #[.int .i64 2, .int .i64 q, .int .i64 t, .int .i64 m, .int .i64 r, .int .i64 s, .int .i64 k, .slice ao xs.length cap] 28)) := (Below.refl _ _).alloc (Nat.le_refl _) _
  have HR := Lib.hid (hr.below hb); clear hb hr
  have HK := Lib.hid hk; have HQ := Lib.hid hq; have HZ := Lib.hid hz; have HY := Lib.hid hy; clear hk hq hz hy
  go_enter Try.func109, Try.ntmps109
  go_wp2_with (first | (go_at_call 105; refine (l06Kind_any _ _).mono ?_; rintro e w1 ⟨rfl, rfl⟩; rw [HK.out]) | (go_at_call 107; refine (l01In_any _ _ _ _).mono ?_; rintro e w1 ⟨rfl, rfl⟩; rw [HQ.out]) | (go_at_call 106; refine (l06Size_any _ _ _).mono ?_; rintro e w1 ⟨rfl, rfl⟩; rw [HZ.out]) | (go_at_call 92; refine (sIsBytes_any _ _ _ _ _ HR.out (by omega)).mono ?_; rintro e w1 ⟨rfl, rfl⟩; rw [HY.out]) | (go_at_call 71; refine (sIsState_any _ _ _ _ _ _).mono ?_; rintro e w2 ⟨rfl, b2⟩))
  go_ret
  exact ⟨rfl, below_box b2⟩
set_option maxRecDepth 100000 in
theorem sIsFrame3 (q t m r s k : Int) (ao : Option Addr) (cap : Nat) (xs : List Int) (w : World) (hr : Rd w ao xs.length xs) (hn : xs.length ≤ 1048576) (hk : kindOk 3 = true) (hq : inRange 0 7 q = true) (hz : sizeOk 3 xs.length = true) (hy : isBytes xs = true) : Calls Try.prog 109 #[.agg #[.int .i64 3, .int .i64 q, .int .i64 t, .int .i64 m, .int .i64 r, .int .i64 s, .int .i64 k, .slice ao xs.length cap]] w fun e w' => e = .returned (.bool (stateOk 3 q t m r s k)) ∧ Below w.heap.size w w' := by
  have hb : Below w.heap.size w (w.alloc (.cells #[.int .i64 3, .int .i64 q, .int .i64 t, .int .i64 m, .int .i64 r, .int .i64 s, .int .i64 k, .slice ao xs.length cap] 28)) := (Below.refl _ _).alloc (Nat.le_refl _) _
  have HR := Lib.hid (hr.below hb); clear hb hr
  have HK := Lib.hid hk; have HQ := Lib.hid hq; have HZ := Lib.hid hz; have HY := Lib.hid hy; clear hk hq hz hy
  rcases hs : isState t m r s k with _ | _
  · rw [show stateOk 3 q t m r s k = false from by rw [so3, hs, Bool.false_and, Bool.and_false]]
    obtain ⟨xs0, e0, hX⟩ : ∃ xs0 e0, membersOf k = (xs0, e0) := ⟨_, _, rfl⟩
    have HX := Lib.hid hX; have HS := Lib.hid hs; clear hX hs
    go_enter Try.func109, Try.ntmps109
    go_wp2_with (first | (go_at_call 105; refine (l06Kind_any _ _).mono ?_; rintro e w1 ⟨rfl, rfl⟩; rw [HK.out]) | (go_at_call 107; refine (l01In_any _ _ _ _).mono ?_; rintro e w1 ⟨rfl, rfl⟩; rw [HQ.out]) | (go_at_call 106; refine (l06Size_any _ _ _).mono ?_; rintro e w1 ⟨rfl, rfl⟩; rw [HZ.out]) | (go_at_call 92; refine (sIsBytes_any _ _ _ _ _ HR.out (by omega)).mono ?_; rintro e w1 ⟨rfl, rfl⟩; rw [HY.out]) | (go_at_call 149; refine (sMembersOf_any _ _).mono ?_; rintro e w3 m3; rw [HX.out] at m3; obtain ⟨p3, cp3, rfl, -, -, b3⟩ := m3.get; have F3 := frame_new b3; have c1 := F3.c1; have c2 := F3.c2; have c3 := F3.c3; have c4 := F3.c4; have c5 := F3.c5; have c6 := F3.c6; clear F3) | (go_at_call 71; refine (sIsState_any _ _ _ _ _ _).mono ?_; rintro e w2 ⟨rfl, b2⟩; rw [HS.out]))
    go_ret
    exact ⟨rfl, below_two (below_box b3) b2⟩
  have hst := isState_iff.1 hs
  obtain ⟨k, rfl⟩ := Int.eq_ofNat_of_zero_le hst.2.2.2.2.1
  have hX := members_nat (k := k) (by omega)
  have hlen : (nodesTo k 32).length ≤ 32 := nodesTo_len k 32
  rw [so3, hs, show ((k : Nat) : Int).toNat = k from by omega]
  have HS := Lib.hid hs; clear hs hst
  generalize nodesTo k 32 = ys at hX hlen ⊢
  have HX := Lib.hid hX; clear hX
  by_cases h1 : m = 0
  rotate_left
  · have t1 : (m == 0) = false := by simp [h1]
    rw [show decide (m = 0) = false from decide_eq_false h1, Bool.false_and, Bool.and_false, Bool.and_false]
    clear h1
    go_enter Try.func109, Try.ntmps109
    go_wp2_with (first | (go_at_call 105; refine (l06Kind_any _ _).mono ?_; rintro e w1 ⟨rfl, rfl⟩; rw [HK.out]) | (go_at_call 107; refine (l01In_any _ _ _ _).mono ?_; rintro e w1 ⟨rfl, rfl⟩; rw [HQ.out]) | (go_at_call 106; refine (l06Size_any _ _ _).mono ?_; rintro e w1 ⟨rfl, rfl⟩; rw [HZ.out]) | (go_at_call 92; refine (sIsBytes_any _ _ _ _ _ HR.out (by omega)).mono ?_; rintro e w1 ⟨rfl, rfl⟩; rw [HY.out]) | (go_at_call 149; refine (sMembersOf_any _ _).mono ?_; rintro e w3 m3; rw [HX.out] at m3; obtain ⟨p3, cp3, rfl, -, -, b3⟩ := m3.get; have F3 := frame_new b3; have c1 := F3.c1; have c2 := F3.c2; have c3 := F3.c3; have c4 := F3.c4; have c5 := F3.c5; have c6 := F3.c6; clear F3) | (go_at_call 71; refine (sIsState_any _ _ _ _ _ _).mono ?_; rintro e w2 ⟨rfl, b2⟩; rw [HS.out]; have F4 := frame_new (below_two b3 b2); have d1 := F4.c1; have d3 := F4.c3; clear F4))
    go_ret
    exact ⟨rfl, below_two (below_box b3) b2⟩
  subst h1
  by_cases h2 : ys.length = 1
  rotate_left
  · rw [show decide (ys.length = 1) = false from decide_eq_false h2, Bool.and_false, Bool.and_false, Bool.and_false]
    have t2 : ((ys.length : Int) == 1) = false := by simp; omega
    clear h2
    go_enter Try.func109, Try.ntmps109
    go_wp2_with (first | (go_at_call 105; refine (l06Kind_any _ _).mono ?_; rintro e w1 ⟨rfl, rfl⟩; rw [HK.out]) | (go_at_call 107; refine (l01In_any _ _ _ _).mono ?_; rintro e w1 ⟨rfl, rfl⟩; rw [HQ.out]) | (go_at_call 106; refine (l06Size_any _ _ _).mono ?_; rintro e w1 ⟨rfl, rfl⟩; rw [HZ.out]) | (go_at_call 92; refine (sIsBytes_any _ _ _ _ _ HR.out (by omega)).mono ?_; rintro e w1 ⟨rfl, rfl⟩; rw [HY.out]) | (go_at_call 149; refine (sMembersOf_any _ _).mono ?_; rintro e w3 m3; rw [HX.out] at m3; obtain ⟨p3, cp3, rfl, -, -, b3⟩ := m3.get; have F3 := frame_new b3; have c1 := F3.c1; have c2 := F3.c2; have c3 := F3.c3; have c4 := F3.c4; have c5 := F3.c5; have c6 := F3.c6; clear F3) | (go_at_call 71; refine (sIsState_any _ _ _ _ _ _).mono ?_; rintro e w2 ⟨rfl, b2⟩; rw [HS.out]; have F4 := frame_new (below_two b3 b2); have d1 := F4.c1; have d3 := F4.c3; clear F4))
    go_ret
    exact ⟨rfl, below_two (below_box b3) b2⟩
  rw [show (true && (decide ((0 : Int) = 0) && decide (ys.length = 1))) = true from by simp [h2], Bool.and_true]
  have t2 : (ys.length : Int) = 1 := by omega
  have t3 : ((ys.length : Int) == 1) = true := by simp; omega
  go_enter Try.func109, Try.ntmps109
  go_wp2_with (first | (go_at_call 105; refine (l06Kind_any _ _).mono ?_; rintro e w1 ⟨rfl, rfl⟩; rw [HK.out]) | (go_at_call 107; refine (l01In_any _ _ _ _).mono ?_; rintro e w1 ⟨rfl, rfl⟩; rw [HQ.out]) | (go_at_call 106; refine (l06Size_any _ _ _).mono ?_; rintro e w1 ⟨rfl, rfl⟩; rw [HZ.out]) | (go_at_call 92; refine (sIsBytes_any _ _ _ _ _ HR.out (by omega)).mono ?_; rintro e w1 ⟨rfl, rfl⟩; rw [HY.out]) | (go_at_call 149; refine (sMembersOf_any _ _).mono ?_; rintro e w3 m3; rw [HX.out] at m3; obtain ⟨p3, cp3, rfl, -, -, b3⟩ := m3.get; have F3 := frame_new b3; have c1 := F3.c1; have c2 := F3.c2; have c3 := F3.c3; have c4 := F3.c4; have c5 := F3.c5; have c6 := F3.c6; clear F3) | (go_at_call 71; refine (sIsState_any _ _ _ _ _ _).mono ?_; rintro e w2 ⟨rfl, b2⟩; rw [HS.out]; have F4 := frame_new (below_two b3 b2); have d1 := F4.c1; have d3 := F4.c3; clear F4))
  go_ret
  exact ⟨rfl, below_two (below_box b3) b2⟩
theorem sIsFrame_any (a q t m r s k : Int) (ao : Option Addr) (cap : Nat) (xs : List Int) (w : World) (hr : Rd w ao xs.length xs) (hn : xs.length ≤ 1048576) : Calls Try.prog 109 #[.agg #[.int .i64 a, .int .i64 q, .int .i64 t, .int .i64 m, .int .i64 r, .int .i64 s, .int .i64 k, .slice ao xs.length cap]] w fun e w' => e = .returned (.bool (isFrame ⟨a, q, t, m, r, s, k, xs⟩)) ∧ Below w.heap.size w w' := by
  rcases hk : kindOk a with _ | _
  · rw [if_kind hk]; exact sIsFrame_no a q t m r s k ao cap xs w hr hn (fun h => by rw [hk] at h; cases h)
  rcases hq : inRange 0 7 q with _ | _
  · rw [if_req hq]; exact sIsFrame_no a q t m r s k ao cap xs w hr hn (fun _ h => by rw [hq] at h; cases h)
  rcases hz : sizeOk a xs.length with _ | _
  · rw [if_size hz]; exact sIsFrame_no a q t m r s k ao cap xs w hr hn (fun _ _ h => by rw [hz] at h; cases h)
  rcases hy : isBytes xs with _ | _
  · rw [if_bytes hy]; exact sIsFrame_no a q t m r s k ao cap xs w hr hn (fun _ _ _ => hy)
  rw [if_all' hk hq hz hy]
  rcases kindOk_four hk with rfl | rfl | rfl | rfl
  · exact sIsFrame0 q t m r s k ao cap xs w hr hn hk hq hz hy
  · exact sIsFrame1 q t m r s k ao cap xs w hr hn hk hq hz hy
  · exact sIsFrame2 q t m r s k ao cap xs w hr hn hk hq hz hy
  · exact sIsFrame3 q t m r s k ao cap xs w hr hn hk hq hz hy
end

section
open Go.RowKit

/-- Five numbers stored from an offset on. -/
def setFiveAt (w : World) (b o : Nat) (t m r s k : Int) : World := ((((w.setCell ⟨b, o, none⟩ (.int .i64 t)).setCell ⟨b, o + 1, none⟩ (.int .i64 m)).setCell ⟨b, o + 2, none⟩ (.int .i64 r)).setCell ⟨b, o + 3, none⟩ (.int .i64 s)).setCell ⟨b, o + 4, none⟩ (.int .i64 k)
theorem below_fiveAt {B b o : Nat} {w : World} (hb : B ≤ b) (t m r s k : Int) : Below B w (setFiveAt w b o t m r s k) := ((((((Below.refl _ _).setCell hb _).setCell hb _).setCell hb _).setCell hb _).setCell hb _)
def setEight (w : World) (b : Nat) (a q t m r s k : Int) (v : Value) : World := (((((((w.setCell ⟨b, 0, none⟩ (.int .i64 a)).setCell ⟨b, 1, none⟩ (.int .i64 q)).setCell ⟨b, 2, none⟩ (.int .i64 t)).setCell ⟨b, 3, none⟩ (.int .i64 m)).setCell ⟨b, 4, none⟩ (.int .i64 r)).setCell ⟨b, 5, none⟩ (.int .i64 s)).setCell ⟨b, 6, none⟩ (.int .i64 k)).setCell ⟨b, 7, none⟩ v
theorem below_eight {B b : Nat} {w : World} (hb : B ≤ b) (a q t m r s k : Int) (v : Value) : Below B w (setEight w b a q t m r s k v) := (((((((((Below.refl _ _).setCell hb _).setCell hb _).setCell hb _).setCell hb _).setCell hb _).setCell hb _).setCell hb _).setCell hb _)
section
variable {T U b c : Nat} {w w' : World} {a q t m r s k : Int} {v : Value}
theorem FrameAt.fiveAt (h : FrameAt T w b a q t m r s k v) (t' m' r' s' k' : Int) : FrameAt T (setFiveAt w b 2 t' m' r' s' k') b a q t' m' r' s' k' v := ((((h.set2 t').set3 m').set4 r').set5 s').set6 k'
theorem FrameAt.eight (h : FrameAt T w b a q t m r s k v) (a' q' t' m' r' s' k' : Int) (v' : Value) : FrameAt T (setEight w b a' q' t' m' r' s' k' v') b a' q' t' m' r' s' k' v' := (((((((h.set0 a').set1 q').set2 t').set3 m').set4 r').set5 s').set6 k').set7 v'
theorem FrameAt.otherFive (h : FrameAt T w b a q t m r s k v) (hne : b ≠ c) (o : Nat) (t' m' r' s' k' : Int) : FrameAt T (setFiveAt w c o t' m' r' s' k') b a q t m r s k v := ((((h.other hne).other hne).other hne).other hne).other hne
end
theorem frame_three {T U V : Nat} (w : World) (a q t m r s k : Int) (v : Value) (a1 q1 t1 m1 r1 s1 k1 : Int) (v1 : Value) (a2 q2 t2 m2 r2 s2 k2 : Int) (v2 : Value) :
    FrameAt T (((w.alloc (.cells #[.int .i64 a, .int .i64 q, .int .i64 t, .int .i64 m, .int .i64 r, .int .i64 s, .int .i64 k, v] T)).alloc (.cells #[.int .i64 a1, .int .i64 q1, .int .i64 t1, .int .i64 m1, .int .i64 r1, .int .i64 s1, .int .i64 k1, v1] U)).alloc (.cells #[.int .i64 a2, .int .i64 q2, .int .i64 t2, .int .i64 m2, .int .i64 r2, .int .i64 s2, .int .i64 k2, v2] V)) w.heap.size a q t m r s k v ∧
    FrameAt U (((w.alloc (.cells #[.int .i64 a, .int .i64 q, .int .i64 t, .int .i64 m, .int .i64 r, .int .i64 s, .int .i64 k, v] T)).alloc (.cells #[.int .i64 a1, .int .i64 q1, .int .i64 t1, .int .i64 m1, .int .i64 r1, .int .i64 s1, .int .i64 k1, v1] U)).alloc (.cells #[.int .i64 a2, .int .i64 q2, .int .i64 t2, .int .i64 m2, .int .i64 r2, .int .i64 s2, .int .i64 k2, v2] V)) (w.heap.size + 1) a1 q1 t1 m1 r1 s1 k1 v1 ∧
    FrameAt V (((w.alloc (.cells #[.int .i64 a, .int .i64 q, .int .i64 t, .int .i64 m, .int .i64 r, .int .i64 s, .int .i64 k, v] T)).alloc (.cells #[.int .i64 a1, .int .i64 q1, .int .i64 t1, .int .i64 m1, .int .i64 r1, .int .i64 s1, .int .i64 k1, v1] U)).alloc (.cells #[.int .i64 a2, .int .i64 q2, .int .i64 t2, .int .i64 m2, .int .i64 r2, .int .i64 s2, .int .i64 k2, v2] V)) (w.heap.size + 1 + 1) a2 q2 t2 m2 r2 s2 k2 v2 := by
  have e1 : (w.alloc (.cells #[.int .i64 a, .int .i64 q, .int .i64 t, .int .i64 m, .int .i64 r, .int .i64 s, .int .i64 k, v] T)).heap.size = w.heap.size + 1 := by simp
  have e2 : ((w.alloc (.cells #[.int .i64 a, .int .i64 q, .int .i64 t, .int .i64 m, .int .i64 r, .int .i64 s, .int .i64 k, v] T)).alloc (.cells #[.int .i64 a1, .int .i64 q1, .int .i64 t1, .int .i64 m1, .int .i64 r1, .int .i64 s1, .int .i64 k1, v1] U)).heap.size = w.heap.size + 1 + 1 := by simp
  refine ⟨((FrameAt.new w).below (B := w.heap.size + 1) ((Below.refl _ _).alloc (by simp) _) (by omega)).below (B := w.heap.size + 1) ((Below.refl _ _).alloc (by simp) _) (by omega), ?_, ?_⟩
  · have := (FrameAt.new (T := U) (a := a1) (q := q1) (t := t1) (m := m1) (r := r1) (s := s1) (k := k1) (v := v1) (w.alloc (.cells #[.int .i64 a, .int .i64 q, .int .i64 t, .int .i64 m, .int .i64 r, .int .i64 s, .int .i64 k, v] T))).below (B := w.heap.size + 1 + 1) (w' := ((w.alloc (.cells #[.int .i64 a, .int .i64 q, .int .i64 t, .int .i64 m, .int .i64 r, .int .i64 s, .int .i64 k, v] T)).alloc (.cells #[.int .i64 a1, .int .i64 q1, .int .i64 t1, .int .i64 m1, .int .i64 r1, .int .i64 s1, .int .i64 k1, v1] U)).alloc (.cells #[.int .i64 a2, .int .i64 q2, .int .i64 t2, .int .i64 m2, .int .i64 r2, .int .i64 s2, .int .i64 k2, v2] V)) ((Below.refl _ _).alloc (by simp) _) (by simp)
    rwa [e1] at this
  · have := FrameAt.new (T := V) (a := a2) (q := q2) (t := t2) (m := m2) (r := r2) (s := s2) (k := k2) (v := v2) ((w.alloc (.cells #[.int .i64 a, .int .i64 q, .int .i64 t, .int .i64 m, .int .i64 r, .int .i64 s, .int .i64 k, v] T)).alloc (.cells #[.int .i64 a1, .int .i64 q1, .int .i64 t1, .int .i64 m1, .int .i64 r1, .int .i64 s1, .int .i64 k1, v1] U))
    rwa [e2] at this
theorem Own.away {E base b : Nat} {w : World} {v : Value} {xs : List Int} (h : Own E w base v xs) (hb : b < base) (i : Nat) (u : Value) : Own E (w.setCell ⟨b, i, none⟩ u) base v xs := by
  refine h.only (grown_setCell w b i u) ?_
  cases hk : v.ownBlock with
  | none => exact .inl rfl
  | some j => exact .inr (fun e => by have := (h.block j hk).1; simp only [Option.some.injEq] at e; omega)
theorem Own.awayFive {E base b : Nat} {w : World} {v : Value} {xs : List Int} (h : Own E w base v xs) (hb : b < base) (o : Nat) (t m r s k : Int) : Own E (setFiveAt w b o t m r s k) base v xs := ((((h.away hb _ _).away hb _ _).away hb _ _).away hb _ _).away hb _ _
theorem Own.awayEight {E base b : Nat} {w : World} {v : Value} {xs : List Int} (h : Own E w base v xs) (hb : b < base) (a q t m r s k : Int) (u : Value) : Own E (setEight w b a q t m r s k u) base v xs := (((((((h.away hb _ _).away hb _ _).away hb _ _).away hb _ _).away hb _ _).away hb _ _).away hb _ _).away hb _ _
/-- A frame handed back, its data a slice of the call's own; all old memory as it was. -/
def GivesFrame (w : World) (a q t m r s k : Int) (xs : List Int) (e : Ending) (w' : World) : Prop :=
  ∃ ao cap, e = .returned (.agg #[.int .i64 a, .int .i64 q, .int .i64 t, .int .i64 m, .int .i64 r, .int .i64 s, .int .i64 k, .slice ao xs.length cap]) ∧ Own 2 w' w.heap.size (.slice ao xs.length cap) xs ∧ Below w.heap.size w w'
theorem toFrame_any (a q t m r s k : Int) (ao : Option Addr) (cap : Nat) (xs : List Int) (w : World) (hr : Rd w ao xs.length xs) (hn : xs.length ≤ 1048576) : Calls Try.prog 54 #[.agg #[.int .i64 a, .int .i64 q, .int .i64 t, .int .i64 m, .int .i64 r, .int .i64 s, .int .i64 k, .slice ao xs.length cap]] w (GivesFrame w a q t m r s k xs) := by
  obtain ⟨A0, R0, S0⟩ := frame_three (T := 66) (U := 28) (V := 28) w a q t m r s k (.slice ao xs.length cap) 0 0 0 0 0 0 0 (.slice none 0 0) 0 0 0 0 0 0 0 (.slice none 0 0)
  have B0 : Below w.heap.size w (((w.alloc (.cells #[.int .i64 a, .int .i64 q, .int .i64 t, .int .i64 m, .int .i64 r, .int .i64 s, .int .i64 k, .slice ao xs.length cap] 66)).alloc (.cells #[.int .i64 0, .int .i64 0, .int .i64 0, .int .i64 0, .int .i64 0, .int .i64 0, .int .i64 0, .slice none 0 0] 28)).alloc (.cells #[.int .i64 0, .int .i64 0, .int .i64 0, .int .i64 0, .int .i64 0, .int .i64 0, .int .i64 0, .slice none 0 0] 28)) := below_two ((Below.refl _ _).alloc (Nat.le_refl _) _) (below_box2 (Below.refl _ _))
  go_enter Try.func54, Try.ntmps54
  go_upto_region 2 with fail
  generalize (((w.alloc (.cells #[.int .i64 a, .int .i64 q, .int .i64 t, .int .i64 m, .int .i64 r, .int .i64 s, .int .i64 k, .slice ao xs.length cap] 66)).alloc (.cells #[.int .i64 0, .int .i64 0, .int .i64 0, .int .i64 0, .int .i64 0, .int .i64 0, .int .i64 0, .slice none 0 0] 28)).alloc (.cells #[.int .i64 0, .int .i64 0, .int .i64 0, .int .i64 0, .int .i64 0, .int .i64 0, .int .i64 0, .slice none 0 0] 28)) = w0 at A0 R0 S0 B0 ⊢
  have a0 := A0.c0
  have c0 := S0.c0
  have f0 := S0.f 0
  go_upto_region 3 with fail
  clear a0 c0 f0
  have A1 := FrameAt.other (c := w.heap.size + 1 + 1) (i := 0) (u := .int .i64 a) A0 (by omega)
  have R1 := FrameAt.other (c := w.heap.size + 1 + 1) (i := 0) (u := .int .i64 a) R0 (by omega)
  have S1 := S0.set0 a
  have B1 := below_two' B0 ((Below.refl w.heap.size w0).setCell (p := ⟨w.heap.size + 1 + 1, 0, none⟩) (by simp; omega) (.int .i64 a))
  generalize World.setCell w0 ⟨w.heap.size + 1 + 1, 0, none⟩ (.int .i64 a) = w1 at A1 R1 S1 B1 ⊢
  clear A0 R0 S0 B0
  have a1 := A1.c1
  have c1 := S1.c1
  have f1 := S1.f 1
  go_upto_region 4 with fail
  clear a1 c1 f1
  have A2 := FrameAt.other (c := w.heap.size + 1 + 1) (i := 1) (u := .int .i64 q) A1 (by omega)
  have R2 := FrameAt.other (c := w.heap.size + 1 + 1) (i := 1) (u := .int .i64 q) R1 (by omega)
  have S2 := S1.set1 q
  have B2 := below_two' B1 ((Below.refl w.heap.size w1).setCell (p := ⟨w.heap.size + 1 + 1, 1, none⟩) (by simp; omega) (.int .i64 q))
  generalize World.setCell w1 ⟨w.heap.size + 1 + 1, 1, none⟩ (.int .i64 q) = w2 at A2 R2 S2 B2 ⊢
  clear A1 R1 S1 B1
  have a2 := A2.c2
  have a3 := A2.c3
  have a4 := A2.c4
  have a5 := A2.c5
  have a6 := A2.c6
  go_wp2_with fail
  clear a2 a3 a4 a5 a6
  refine (toState_any _ _ _ _ _ _).mono ?_
  rintro e w3 ⟨rfl, b3⟩
  have A3 := A2.below b3 A2.lt
  have R3 := R2.below b3 R2.lt
  have S3 := S2.below b3 S2.lt
  have B3 := below_two B2 b3
  clear A2 R2 S2 B2 b3
  have c2 := S3.c2
  have c3 := S3.c3
  have c4 := S3.c4
  have c5 := S3.c5
  have c6 := S3.c6
  have f2 := S3.f 2
  have f3 := S3.f 3
  have f4 := S3.f 4
  have f5 := S3.f 5
  have f6 := S3.f 6
  go_upto_region 5 with fail
  clear c2 c3 c4 c5 c6 f2 f3 f4 f5 f6
  change Code.wp _ _ _ _ (setFiveAt w3 (w.heap.size + 1 + 1) 2 t m r s k)
  have A4 := A3.otherFive (c := w.heap.size + 1 + 1) (by omega) 2 t m r s k
  have R4 := R3.otherFive (c := w.heap.size + 1 + 1) (by omega) 2 t m r s k
  have S4 := S3.fiveAt t m r s k
  have B4 := below_two' B3 (below_fiveAt (B := w.heap.size) (w := w3) (b := w.heap.size + 1 + 1) (o := 2) (by omega) t m r s k)
  generalize setFiveAt w3 (w.heap.size + 1 + 1) 2 t m r s k = w4 at A4 R4 S4 B4 ⊢
  clear A3 R3 S3 B3
  have a7 := A4.c7
  go_wp2_with fail
  clear a7
  refine (toInt_any _ _ _ _ _ (hr.below B4) hn).mono ?_
  rintro e w5 m5
  obtain ⟨p5, c5, rfl, o5, -, b5⟩ := m5.get
  clear m5
  have hlt : w.heap.size + 1 + 1 < w4.heap.size := S4.lt
  have A5 := A4.below b5 A4.lt
  have R5 := R4.below b5 R4.lt
  have S5 := S4.below b5 S4.lt
  have B5 := below_two B4 b5
  clear A4 R4 S4 B4 b5
  have c7 := S5.c7
  have f7 := S5.f 7
  go_upto_region 6 with fail
  clear c7 f7
  have O6 := (o5.away (b := w.heap.size + 1 + 1) hlt 7 (.slice p5 xs.length c5)).more (base' := w.heap.size + 1 + 1 + 1) hlt
  have R6 := FrameAt.other (c := w.heap.size + 1 + 1) (i := 7) (u := .slice p5 xs.length c5) R5 (by omega)
  have S6 := S5.set7 (.slice p5 xs.length c5)
  have B6 := below_two' B5 ((Below.refl w.heap.size w5).setCell (p := ⟨w.heap.size + 1 + 1, 7, none⟩) (by simp; omega) (.slice p5 xs.length c5))
  generalize World.setCell w5 ⟨w.heap.size + 1 + 1, 7, none⟩ (.slice p5 xs.length c5) = w6 at O6 R6 S6 B6 ⊢
  clear A5 R5 S5 B5 o5
  have c0 := S6.c0
  have c1 := S6.c1
  have c2 := S6.c2
  have c3 := S6.c3
  have c4 := S6.c4
  have c5' := S6.c5
  have c6 := S6.c6
  have c7 := S6.c7
  have d0 := R6.c0
  have d1 := R6.c1
  have d2 := R6.c2
  have d3 := R6.c3
  have d4 := R6.c4
  have d5 := R6.c5
  have d6 := R6.c6
  have d7 := R6.c7
  have f0 := R6.f 0
  have f1 := R6.f 1
  have f2 := R6.f 2
  have f3 := R6.f 3
  have f4 := R6.f 4
  have f5 := R6.f 5
  have f6 := R6.f 6
  have f7 := R6.f 7
  go_wp2_with fail
  clear c0 c1 c2 c3 c4 c5' c6 c7 d0 d1 d2 d3 d4 d5 d6 d7 f0 f1 f2 f3 f4 f5 f6 f7
  change bodyPost _ _ _ _ _ (setEight w6 (w.heap.size + 1) a q t m r s k (.slice p5 xs.length c5))
  have SF := R6.eight a q t m r s k (.slice p5 xs.length c5)
  have BF := below_two' B6 (below_eight (B := w.heap.size) (w := w6) (b := w.heap.size + 1) (by omega) a q t m r s k (.slice p5 xs.length c5))
  have OF := (O6.awayEight (b := w.heap.size + 1) (by omega) a q t m r s k (.slice p5 xs.length c5)).more (base' := w.heap.size) (by omega)
  generalize setEight w6 (w.heap.size + 1) a q t m r s k (.slice p5 xs.length c5) = wz at SF BF OF ⊢
  have e0 := SF.c0
  have e1 := SF.c1
  have e2 := SF.c2
  have e3 := SF.c3
  have e4 := SF.c4
  have e5 := SF.c5
  have e6 := SF.c6
  have e7 := SF.c7
  exact bodyPost_ret (v := .agg #[.int .i64 a, .int .i64 q, .int .i64 t, .int .i64 m, .int .i64 r, .int .i64 s, .int .i64 k, .slice p5 xs.length c5]) (by simp [results, Try.results54, go_sem, e0, e1, e2, e3, e4, e5, e6, e7]) rfl ⟨p5, c5, rfl, OF, BF⟩
end

section
open Go.RowKit

theorem szInt_ok (ao : Option Addr) (n cap : Nat) (w : World) (hn : n ≤ 1048576) : Calls Try.prog 112 #[.slice ao n cap, .int .i64 1048576] w fun e w' => e = .returned (.int .i64 (1048576 - (n : Int))) ∧ w = w' := by
  have hw : IntKind.i64.wrap (1048576 - (n : Int)) = 1048576 - (n : Int) := by rw [IntKind.wrap_i64]; omega
  have h0 : ¬ (1048576 - (n : Int) < 0) := by omega
  go_enter Try.func112, Try.ntmps112
  go_wp2
  go_ret
  exact ⟨rfl, rfl⟩
theorem szInt_big (ao : Option Addr) (n cap : Nat) (w : World) (hn : 1048576 < n) (hm : n ≤ 9223372036854775807) : Calls Try.prog 112 #[.slice ao n cap, .int .i64 1048576] w fun e w' => e = .returned (.int .i64 (-1)) ∧ w = w' := by
  have hw : IntKind.i64.wrap (1048576 - (n : Int)) = 1048576 - (n : Int) := by rw [IntKind.wrap_i64]; omega
  have h0 : 1048576 - (n : Int) < 0 := by omega
  go_enter Try.func112, Try.ntmps112
  go_wp2
  go_ret
  exact ⟨rfl, rfl⟩
theorem szFrame_ok (a q t m r s k : Int) (ao : Option Addr) (n cap : Nat) (w : World) (hn : n ≤ 1048576) : Calls Try.prog 53 #[.agg #[.int .i64 a, .int .i64 q, .int .i64 t, .int .i64 m, .int .i64 r, .int .i64 s, .int .i64 k, .slice ao n cap], .int .i64 1048576] w fun e w' => e = .returned (.int .i64 (1048576 - (n : Int))) ∧ Below w.heap.size w w' := by
  have h0 : ¬ (1048576 - (n : Int) < 0) := by omega
  go_enter Try.func53, Try.ntmps53
  go_wp2_with (go_at_call 112; refine (szInt_ok _ _ _ _ hn).mono ?_; rintro e w' ⟨rfl, rfl⟩)
  go_ret
  exact ⟨rfl, (Below.refl _ _).alloc (Nat.le_refl _) _⟩
theorem szFrame_big (a q t m r s k : Int) (ao : Option Addr) (n cap : Nat) (w : World) (hn : 1048576 < n) (hm : n ≤ 9223372036854775807) : Calls Try.prog 53 #[.agg #[.int .i64 a, .int .i64 q, .int .i64 t, .int .i64 m, .int .i64 r, .int .i64 s, .int .i64 k, .slice ao n cap], .int .i64 1048576] w fun e w' => e = .returned (.int .i64 (-1)) ∧ Below w.heap.size w w' := by
  go_enter Try.func53, Try.ntmps53
  go_wp2_with (go_at_call 112; refine (szInt_big _ _ _ _ hn hm).mono ?_; rintro e w' ⟨rfl, rfl⟩)
  go_ret
  exact ⟨rfl, (Below.refl _ _).alloc (Nat.le_refl _) _⟩
/-- The two frames that a call lays first. -/
theorem frame_new2 {T U : Nat} {w w' : World} {a q t m r s k a1 q1 t1 m1 r1 s1 k1 : Int} {v v1 : Value} (h : Below ((w.alloc (.cells #[.int .i64 a, .int .i64 q, .int .i64 t, .int .i64 m, .int .i64 r, .int .i64 s, .int .i64 k, v] T)).alloc (.cells #[.int .i64 a1, .int .i64 q1, .int .i64 t1, .int .i64 m1, .int .i64 r1, .int .i64 s1, .int .i64 k1, v1] U)).heap.size ((w.alloc (.cells #[.int .i64 a, .int .i64 q, .int .i64 t, .int .i64 m, .int .i64 r, .int .i64 s, .int .i64 k, v] T)).alloc (.cells #[.int .i64 a1, .int .i64 q1, .int .i64 t1, .int .i64 m1, .int .i64 r1, .int .i64 s1, .int .i64 k1, v1] U)) w') :
    FrameAt T w' w.heap.size a q t m r s k v ∧ FrameAt U w' (w.heap.size + 1) a1 q1 t1 m1 r1 s1 k1 v1 :=
  ⟨((FrameAt.new w).below (B := (w.alloc (.cells #[.int .i64 a, .int .i64 q, .int .i64 t, .int .i64 m, .int .i64 r, .int .i64 s, .int .i64 k, v] T)).heap.size) ((Below.refl _ _).alloc (Nat.le_refl _) _) (by simp)).below h (by simp; omega), by
    have e : (w.alloc (.cells #[.int .i64 a, .int .i64 q, .int .i64 t, .int .i64 m, .int .i64 r, .int .i64 s, .int .i64 k, v] T)).heap.size = w.heap.size + 1 := by simp
    have := (FrameAt.new (T := U) (a := a1) (q := q1) (t := t1) (m := m1) (r := r1) (s := s1) (k := k1) (v := v1) (w.alloc (.cells #[.int .i64 a, .int .i64 q, .int .i64 t, .int .i64 m, .int .i64 r, .int .i64 s, .int .i64 k, v] T))).below h (by simp)
    rwa [e] at this⟩
theorem frame_cells {T b : Nat} {w : World} {a q t m r s k : Int} {v : Value} (h : FrameAt T w b a q t m r s k v) : w.cell? ⟨b, 0, none⟩ = some (.int .i64 a) ∧ w.cell? ⟨b, 1, none⟩ = some (.int .i64 q) ∧ w.cell? ⟨b, 2, none⟩ = some (.int .i64 t) ∧ w.cell? ⟨b, 3, none⟩ = some (.int .i64 m) ∧ w.cell? ⟨b, 4, none⟩ = some (.int .i64 r) ∧ w.cell? ⟨b, 5, none⟩ = some (.int .i64 s) ∧ w.cell? ⟨b, 6, none⟩ = some (.int .i64 k) ∧ w.cell? ⟨b, 7, none⟩ = some v := ⟨h.c0, h.c1, h.c2, h.c3, h.c4, h.c5, h.c6, h.c7⟩
theorem frame_cells2 {T U b c : Nat} {w : World} {a q t m r s k a1 q1 t1 m1 r1 s1 k1 : Int} {v v1 : Value} (h : FrameAt T w b a q t m r s k v) (g : FrameAt U w c a1 q1 t1 m1 r1 s1 k1 v1) : w.cell? ⟨b, 0, none⟩ = some (.int .i64 a) ∧ w.cell? ⟨b, 1, none⟩ = some (.int .i64 q) ∧ w.cell? ⟨b, 2, none⟩ = some (.int .i64 t) ∧ w.cell? ⟨b, 3, none⟩ = some (.int .i64 m) ∧ w.cell? ⟨b, 4, none⟩ = some (.int .i64 r) ∧ w.cell? ⟨b, 5, none⟩ = some (.int .i64 s) ∧ w.cell? ⟨b, 6, none⟩ = some (.int .i64 k) ∧ w.cell? ⟨b, 7, none⟩ = some v ∧ w.cell? ⟨c, 0, none⟩ = some (.int .i64 a1) ∧ w.cell? ⟨c, 1, none⟩ = some (.int .i64 q1) ∧ w.cell? ⟨c, 2, none⟩ = some (.int .i64 t1) ∧ w.cell? ⟨c, 3, none⟩ = some (.int .i64 m1) ∧ w.cell? ⟨c, 4, none⟩ = some (.int .i64 r1) ∧ w.cell? ⟨c, 5, none⟩ = some (.int .i64 s1) ∧ w.cell? ⟨c, 6, none⟩ = some (.int .i64 k1) ∧ w.cell? ⟨c, 7, none⟩ = some v1 := ⟨h.c0, h.c1, h.c2, h.c3, h.c4, h.c5, h.c6, h.c7, frame_cells g⟩
theorem eqFrame_yes (a q t m r s k : Int) (ao bo : Option Addr) (cap dap : Nat) (xs : List Int) (w : World) (hx : Rd w ao xs.length xs) (hy : Rd w bo xs.length xs) (hn : xs.length ≤ 1048576) :
    Calls Try.prog 57 #[.agg #[.int .i64 a, .int .i64 q, .int .i64 t, .int .i64 m, .int .i64 r, .int .i64 s, .int .i64 k, .slice ao xs.length cap], .agg #[.int .i64 a, .int .i64 q, .int .i64 t, .int .i64 m, .int .i64 r, .int .i64 s, .int .i64 k, .slice bo xs.length dap]] w fun e w' => e = .returned (.bool true) ∧ Below w.heap.size w w' := by
  have h0 : (a != a) = false := by simp
  have h1 : (q != q) = false := by simp
  have hb : Below w.heap.size w ((w.alloc (.cells #[.int .i64 a, .int .i64 q, .int .i64 t, .int .i64 m, .int .i64 r, .int .i64 s, .int .i64 k, .slice ao xs.length cap] 28)).alloc (.cells #[.int .i64 a, .int .i64 q, .int .i64 t, .int .i64 m, .int .i64 r, .int .i64 s, .int .i64 k, .slice bo xs.length dap] 28)) := below_box2 (Below.refl _ _)
  have HX := Lib.hid (hx.below hb); have HY := Lib.hid (hy.below hb); clear hx hy hb
  go_enter Try.func57, Try.ntmps57
  go_wp2_with (first
    | (go_at_call 113; refine (eqState_any _ _ _ _ _ _).mono ?_; rintro e w1 ⟨rfl, b1⟩; have c7 := (frame_new2 b1).1.c7; have d7 := (frame_new2 b1).2.c7)
    | (go_at_call 56; refine (eq_yes _ _ _ _ _ _ _ _ (HX.out.below b1) (HY.out.below b1) (by omega)).mono ?_; rintro e w2 ⟨rfl, b2⟩))
  go_ret
  exact ⟨rfl, below_two (below_box2 b1) b2⟩
theorem markFrame_own (a q t m r s k : Int) (ao : Option Addr) (n cap base : Nat) (xs : List Int) (j : Int) (w : World) (hl : xs.length = n) (ho : Own 2 w base (.slice ao n cap) xs) (hn : n ≤ 4294967296) (hq0 : 0 ≤ j) (hq1 : j ≤ 4294967296) :
    Calls Try.prog 58 #[.agg #[.int .i64 a, .int .i64 q, .int .i64 t, .int .i64 m, .int .i64 r, .int .i64 s, .int .i64 k, .slice ao n cap], .int .i64 j] w fun e w' => e = .returned (.int .i64 (j + n)) ∧ Own 2 w' base (.slice ao n cap) (marks j n) ∧ w.grownBy w' (Value.slice ao n cap).ownBlock := by
  have hb : Below w.heap.size w (w.alloc (.cells #[.int .i64 a, .int .i64 q, .int .i64 t, .int .i64 m, .int .i64 r, .int .i64 s, .int .i64 k, .slice ao n cap] 28)) := (Below.refl _ _).alloc (Nat.le_refl _) _
  have HO := Lib.hid (ho.below hb); have HG := Lib.hid (grown_of_below (g := (Value.slice ao n cap).ownBlock) hb); clear ho hb
  go_enter Try.func58, Try.ntmps58
  go_wp2_with (go_at_call 59; refine (mark_own _ _ _ _ _ _ _ hl HO.out hn hq0 hq1).mono ?_; rintro e w1 ⟨rfl, o1, g1⟩)
  go_ret
  exact ⟨rfl, o1, grown_trans HG.out g1⟩
theorem heldFrame_yes (a q t m r s k : Int) (ao : Option Addr) (n cap : Nat) (j : Int) (w : World) (hr : Rd w ao n (marks j n)) (hn : n ≤ 4294967296) (hq0 : 0 ≤ j) (hq1 : j ≤ 4294967296) :
    Calls Try.prog 62 #[.agg #[.int .i64 a, .int .i64 q, .int .i64 t, .int .i64 m, .int .i64 r, .int .i64 s, .int .i64 k, .slice ao n cap], .int .i64 j] w fun e w' => e = .returned (.int .i64 (j + n)) ∧ Below w.heap.size w w' := by
  have hb : Below w.heap.size w (w.alloc (.cells #[.int .i64 a, .int .i64 q, .int .i64 t, .int .i64 m, .int .i64 r, .int .i64 s, .int .i64 k, .slice ao n cap] 28)) := (Below.refl _ _).alloc (Nat.le_refl _) _
  have HR := Lib.hid (hr.below hb); have HB := Lib.hid hb; clear hr hb
  have h0 : ¬ (j + (n : Int) < 0) := by omega
  go_enter Try.func62, Try.ntmps62
  go_wp2_with (go_at_call 60; refine (held_yes _ _ _ _ _ HR.out hn hq0 hq1).mono ?_; rintro e w1 ⟨rfl, rfl⟩)
  go_ret
  exact ⟨rfl, HB.out⟩
theorem likeFrames_yes (a q t m r s k : Int) (ao bo : Option Addr) (cap dap : Nat) (xs : List Int) (w : World) (hx : Rd w ao xs.length xs) (hy : Rd w bo xs.length xs) (hn : xs.length ≤ 1048576) :
    Calls Try.prog 27 #[.agg #[.int .i64 a, .int .i64 q, .int .i64 t, .int .i64 m, .int .i64 r, .int .i64 s, .int .i64 k, .slice ao xs.length cap], .agg #[.int .i64 a, .int .i64 q, .int .i64 t, .int .i64 m, .int .i64 r, .int .i64 s, .int .i64 k, .slice bo xs.length dap]] w fun e w' => e = .returned (.bool true) ∧ Below w.heap.size w w' := by
  have h0 : (a == a) = true := by simp
  have h1 : (q == q) = true := by simp
  have he : ∀ w : World, (binOp .eql 25 (.agg #[.int .i64 t, .int .i64 m, .int .i64 r, .int .i64 s, .int .i64 k]) (.agg #[.int .i64 t, .int .i64 m, .int .i64 r, .int .i64 s, .int .i64 k])).run Try.prog w = .ok (.bool true) w := fun w => by rw [state_eql]; simp
  have hb : Below w.heap.size w ((w.alloc (.cells #[.int .i64 a, .int .i64 q, .int .i64 t, .int .i64 m, .int .i64 r, .int .i64 s, .int .i64 k, .slice ao xs.length cap] 28)).alloc (.cells #[.int .i64 a, .int .i64 q, .int .i64 t, .int .i64 m, .int .i64 r, .int .i64 s, .int .i64 k, .slice bo xs.length dap] 28)) := below_box2 (Below.refl _ _)
  have HX := Lib.hid (hx.below hb); have HY := Lib.hid (hy.below hb); clear hx hy; have HB := Lib.hid hb; clear hb
  go_enter Try.func27, Try.ntmps27
  go_wp2_with (go_at_call 24; refine (like_yes _ _ _ _ _ _ _ _ HX.out HY.out (by omega)).mono ?_; rintro e w1 ⟨rfl, b1⟩)
  go_ret
  exact ⟨rfl, below_two HB.out b1⟩
end

section
open Go.Joins Go.ChangeShapes Go.WideShapes Go.RowKit Go.ChangeAt

theorem list_four {α : Type} {cs : List α} (h : cs.length = 4) : ∃ a b c d, cs = [a, b, c, d] := by
  match cs, h with
  | [a, b, c, d], _ => exact ⟨a, b, c, d, rfl⟩
theorem list_eight {α : Type} {cs : List α} (h : cs.length = 8) : ∃ a b c d e f g i, cs = [a, b, c, d, e, f, g, i] := by
  match cs, h with
  | [a, b, c, d, e, f, g, i], _ => exact ⟨a, b, c, d, e, f, g, i, rfl⟩
/-- A slice of numbers that came in: nil, or a row of 'cap' cells that hold the numbers 'zs'. -/
def IntRow (w : World) (a : Option Addr) (len cap : Nat) (zs : List Int) : Prop :=
  (a = none ∧ len = 0 ∧ cap = 0 ∧ zs = []) ∨
  ∃ x, a = some x ∧ len ≤ cap ∧ cap ≤ maxLen ∧ zs.length = cap ∧ (∀ i, i < zs.length → w.cell? (x.add i) = some (.int .i64 (zs.getD i 0))) ∧ ∀ n ∈ zs, (Lit.int .i64 n).wf = true
theorem IntRow.small {w : World} {a : Option Addr} {len cap : Nat} {zs : List Int} (h : IntRow w a len cap zs) : len ≤ 9223372036854775807 := by
  rcases h with ⟨-, rfl, -, -⟩ | ⟨x, -, hl, hm, -, -, -⟩
  · omega
  · unfold maxLen at hm; omega
section
variable {H : Type} {enc : TypeId × Value → H} {P : Program} {w : World} {base : Nat} {held : Bool}
theorem open_eight {r : Reach} {b0 : Nat} {t F S L : TypeId} {f0 f1 f2 f3 g0 g1 g2 g3 g4 : Field} {v : Value} {d : DataW H} {p : List MemPlace} (hs : P.underlying t = some (.struct #[f0, f1, f2, f3])) (hS : P.underlying S = some (.struct #[g0, g1, g2, g3, g4])) (hL : P.underlying L = some (.slice F)) (hF : P.underlying F = some (.int .i64)) (hCF : P.cellsOf F = 1) (hCS : P.cellsOf S = 5) (hCL : P.cellsOf L = 1) (hC : P.cellsOf t = 8)
    (hfs : (f0.type = F ∧ f0.offset = 0) ∧ (f1.type = F ∧ f1.offset = 1) ∧ (f2.type = S ∧ f2.offset = 2) ∧ f3.type = L ∧ f3.offset = 7)
    (hgs : (g0.type = F ∧ g0.offset = 0) ∧ (g1.type = F ∧ g1.offset = 1) ∧ (g2.type = F ∧ g2.offset = 2) ∧ (g3.type = F ∧ g3.offset = 3) ∧ g4.type = F ∧ g4.offset = 4)
    (hv : Value.okWide P w r b0 t v) (h : DataW.Trod enc P w base (fun _ => true) held t v d p) :
    ∃ (n0 n1 n2 n3 n4 n5 n6 : Int) (ao : Option Addr) (len cap : Nat) (zs : List Int), v = .agg #[.int .i64 n0, .int .i64 n1, .int .i64 n2, .int .i64 n3, .int .i64 n4, .int .i64 n5, .int .i64 n6, .slice ao len cap] ∧ IntRow w ao len cap zs ∧
      (Lit.int .i64 n0).wf = true ∧ (Lit.int .i64 n1).wf = true ∧ (Lit.int .i64 n2).wf = true ∧ (Lit.int .i64 n3).wf = true ∧ (Lit.int .i64 n4).wf = true ∧ (Lit.int .i64 n5).wf = true ∧ (Lit.int .i64 n6).wf = true := by
  obtain ⟨⟨cs⟩, rfl, hsz⟩ := okWide_struct hs hv
  obtain ⟨c0, c1, c2, c3, c4, c5, c6, c7, rfl⟩ := list_eight (hsz.trans hC)
  obtain ⟨fuel, hf⟩ := h
  obtain ⟨xs, n, -, hx, -, hlen, hg⟩ := DataW.trod_struct hs hf
  obtain ⟨y0, y1, y2, y3, rfl⟩ := list_four hlen
  obtain ⟨h0, h1, ⟨h2t, h2o⟩, h3t, h3o⟩ := hfs
  obtain ⟨k0, k1, k2, k3, k4⟩ := hgs
  obtain ⟨n0, e0, p0, w0⟩ := int_at (y := y0) hF hCF h0 (by simpa [Value.cells] using hg 0 f0 rfl)
  obtain ⟨n1, e1, p1, w1⟩ := int_at (y := y1) hF hCF h1 (by simpa [Value.cells] using hg 1 f1 rfl)
  have hs2 := hg 2 f2 rfl
  rw [h2t, h2o, hCS] at hs2
  obtain ⟨xs2, m, -, hx2, -, hlen2, hg2⟩ := DataW.trod_struct hS hs2
  obtain ⟨z0, z1, z2, z3, z4, rfl⟩ := list_five hlen2
  obtain ⟨n2, e2, p2, w2⟩ := int_at (y := z0) hF hCF k0 (by simpa [Value.cells] using hg2 0 g0 rfl)
  obtain ⟨n3, e3, p3, w3⟩ := int_at (y := z1) hF hCF k1 (by simpa [Value.cells] using hg2 1 g1 rfl)
  obtain ⟨n4, e4, p4, w4⟩ := int_at (y := z2) hF hCF k2 (by simpa [Value.cells] using hg2 2 g2 rfl)
  obtain ⟨n5, e5, p5, w5⟩ := int_at (y := z3) hF hCF k3 (by simpa [Value.cells] using hg2 3 g3 rfl)
  obtain ⟨n6, e6, p6, w6⟩ := int_at (y := z4) hF hCF k4 (by simpa [Value.cells] using hg2 4 g4 rfl)
  have hs3 := hg 3 f3 rfl
  rw [h3t, h3o, hCL] at hs3
  simp only [List.drop_zero, List.drop_succ_cons, List.take_succ_cons, List.take_zero, List.cons.injEq, and_true] at e0 e1 e2 e3 e4 e5 e6
  subst e0 e1 e2 e3 e4 e5 e6
  rcases open_ints hL hF hCF hs3 with ⟨hcs, _⟩ | ⟨x, l, c, zs, hcs, _, hl, hm, hz, _, hcell, hwz⟩
  · simp [Value.cells] at hcs
    subst hcs
    exact ⟨n0, n1, n2, n3, n4, n5, n6, none, 0, 0, [], rfl, .inl ⟨rfl, rfl, rfl, rfl⟩, w0, w1, w2, w3, w4, w5, w6⟩
  · simp [Value.cells] at hcs
    subst hcs
    exact ⟨n0, n1, n2, n3, n4, n5, n6, some x, l, c, zs, rfl, .inr ⟨_, rfl, hl, hm, by simpa using hz, hcell, hwz⟩, w0, w1, w2, w3, w4, w5, w6⟩
end
end
end Go.Proofs.Ytbdfnkhmnglpbaa
