/-
  Chapter 6: IsFrame of the model.
-/
import Derived.Test.YtnblbemkpojjdaaG5
namespace Go.Proofs.Ytnblbemkpojjdaa
open Go.RowKit

theorem if_bytes {a q t m r s k : Int} {xs : List Int} (h : isBytes xs = false) : isFrame ⟨a, q, t, m, r, s, k, xs⟩ = false := by simp [isFrame, h]
theorem if_all' {a q t m r s k : Int} {xs : List Int} (h1 : kindOk a = true) (h2 : inRange 0 7 q = true) (h3 : sizeOk a xs.length = true) (h4 : isBytes xs = true) : isFrame ⟨a, q, t, m, r, s, k, xs⟩ = stateOk a q t m r s k := by simp [isFrame, h1, h2, h3, h4]
theorem members_nat {k : Nat} (h : (k : Int) ≤ 4294967295) : membersOf (k : Int) = (nodesTo k 32, 0) := by
  unfold membersOf
  rw [if_pos (isVec_iff.2 ⟨by omega, h⟩), show ((k : Nat) : Int).toNat = k from by omega]
set_option maxRecDepth 100000 in
theorem sIsFrame_no (a q t m r s k : Int) (ao : Option Addr) (cap : Nat) (xs : List Int) (w : World) (hr : Rd w ao xs.length xs) (hn : xs.length ≤ 1048576) (h : kindOk a = true → inRange 0 7 q = true → sizeOk a xs.length = true → isBytes xs = false) : Calls Try.prog 18 #[.agg #[.int .i64 a, .int .i64 q, .int .i64 t, .int .i64 m, .int .i64 r, .int .i64 s, .int .i64 k, .slice ao xs.length cap]] w fun e w' => e = .returned (.bool (false)) ∧ Below w.heap.size w w' := by
  have hb : Below w.heap.size w (w.alloc (.cells #[.int .i64 a, .int .i64 q, .int .i64 t, .int .i64 m, .int .i64 r, .int .i64 s, .int .i64 k, .slice ao xs.length cap] 28)) := (Below.refl _ _).alloc (Nat.le_refl _) _
  have HR := Lib.hid (hr.below hb); clear hb hr
  have HH := Lib.hid h; clear h
  rcases hk : kindOk a with _ | _
  · have HK := Lib.hid hk; clear hk HH
    go_enter Try.func18, Try.ntmps18
    go_wp2_with (go_at_call 47; refine (l06Kind_any _ _).mono ?_; rintro e w1 ⟨rfl, rfl⟩; rw [HK.out])
    go_ret
    exact ⟨rfl, (Below.refl _ _).alloc (Nat.le_refl _) _⟩
  rcases hq : inRange 0 7 q with _ | _
  · have HK := Lib.hid hk; have HQ := Lib.hid hq; clear hk hq HH
    go_enter Try.func18, Try.ntmps18
    go_wp2_with (first | (go_at_call 47; refine (l06Kind_any _ _).mono ?_; rintro e w1 ⟨rfl, rfl⟩; rw [HK.out]) | (go_at_call 48; refine (l01In_any _ _ _ _).mono ?_; rintro e w1 ⟨rfl, rfl⟩; rw [HQ.out]))
    go_ret
    exact ⟨rfl, (Below.refl _ _).alloc (Nat.le_refl _) _⟩
  rcases hz : sizeOk a xs.length with _ | _
  · have HK := Lib.hid hk; have HQ := Lib.hid hq; have HZ := Lib.hid hz; clear hk hq hz HH
    go_enter Try.func18, Try.ntmps18
    go_wp2_with (first | (go_at_call 47; refine (l06Kind_any _ _).mono ?_; rintro e w1 ⟨rfl, rfl⟩; rw [HK.out]) | (go_at_call 48; refine (l01In_any _ _ _ _).mono ?_; rintro e w1 ⟨rfl, rfl⟩; rw [HQ.out]) | (go_at_call 49; refine (l06Size_any _ _ _).mono ?_; rintro e w1 ⟨rfl, rfl⟩; rw [HZ.out]))
    go_ret
    exact ⟨rfl, (Below.refl _ _).alloc (Nat.le_refl _) _⟩
  have hy := HH.out hk hq hz
  have HK := Lib.hid hk; have HQ := Lib.hid hq; have HZ := Lib.hid hz; have HY := Lib.hid hy; clear hk hq hz hy HH
  go_enter Try.func18, Try.ntmps18
  go_wp2_with (first | (go_at_call 47; refine (l06Kind_any _ _).mono ?_; rintro e w1 ⟨rfl, rfl⟩; rw [HK.out]) | (go_at_call 48; refine (l01In_any _ _ _ _).mono ?_; rintro e w1 ⟨rfl, rfl⟩; rw [HQ.out]) | (go_at_call 49; refine (l06Size_any _ _ _).mono ?_; rintro e w1 ⟨rfl, rfl⟩; rw [HZ.out]) | (go_at_call 50; refine (sIsBytes_any _ _ _ _ _ HR.out (by omega)).mono ?_; rintro e w1 ⟨rfl, rfl⟩; rw [HY.out]))
  go_ret
  exact ⟨rfl, (Below.refl _ _).alloc (Nat.le_refl _) _⟩
set_option maxRecDepth 100000 in
theorem sIsFrame0 (q t m r s k : Int) (ao : Option Addr) (cap : Nat) (xs : List Int) (w : World) (hr : Rd w ao xs.length xs) (hn : xs.length ≤ 1048576) (hk : kindOk 0 = true) (hq : inRange 0 7 q = true) (hz : sizeOk 0 xs.length = true) (hy : isBytes xs = true) : Calls Try.prog 18 #[.agg #[.int .i64 0, .int .i64 q, .int .i64 t, .int .i64 m, .int .i64 r, .int .i64 s, .int .i64 k, .slice ao xs.length cap]] w fun e w' => e = .returned (.bool (stateOk 0 q t m r s k)) ∧ Below w.heap.size w w' := by
  have he := fun w => state_eql t m r s k 0 0 0 0 0 w
  rw [show stateOk 0 q t m r s k = (decide (t = 0) && (decide (m = 0) && (decide (r = 0) && (decide (s = 0) && decide (k = 0))))) from by rw [show stateOk 0 q t m r s k = decide (t = 0 ∧ m = 0 ∧ r = 0 ∧ s = 0 ∧ k = 0) from rfl]; simp only [Bool.decide_and]]
  have hb : Below w.heap.size w (w.alloc (.cells #[.int .i64 0, .int .i64 q, .int .i64 t, .int .i64 m, .int .i64 r, .int .i64 s, .int .i64 k, .slice ao xs.length cap] 28)) := (Below.refl _ _).alloc (Nat.le_refl _) _
  have HR := Lib.hid (hr.below hb); clear hb hr
  have HK := Lib.hid hk; have HQ := Lib.hid hq; have HZ := Lib.hid hz; have HY := Lib.hid hy; clear hk hq hz hy
  go_enter Try.func18, Try.ntmps18
  go_wp2_with (first | (go_at_call 47; refine (l06Kind_any _ _).mono ?_; rintro e w1 ⟨rfl, rfl⟩; rw [HK.out]) | (go_at_call 48; refine (l01In_any _ _ _ _).mono ?_; rintro e w1 ⟨rfl, rfl⟩; rw [HQ.out]) | (go_at_call 49; refine (l06Size_any _ _ _).mono ?_; rintro e w1 ⟨rfl, rfl⟩; rw [HZ.out]) | (go_at_call 50; refine (sIsBytes_any _ _ _ _ _ HR.out (by omega)).mono ?_; rintro e w1 ⟨rfl, rfl⟩; rw [HY.out]))
  go_ret
  exact ⟨rfl, (Below.refl _ _).alloc (Nat.le_refl _) _⟩
set_option maxRecDepth 100000 in
theorem sIsFrame1 (q t m r s k : Int) (ao : Option Addr) (cap : Nat) (xs : List Int) (w : World) (hr : Rd w ao xs.length xs) (hn : xs.length ≤ 1048576) (hk : kindOk 1 = true) (hq : inRange 0 7 q = true) (hz : sizeOk 1 xs.length = true) (hy : isBytes xs = true) : Calls Try.prog 18 #[.agg #[.int .i64 1, .int .i64 q, .int .i64 t, .int .i64 m, .int .i64 r, .int .i64 s, .int .i64 k, .slice ao xs.length cap]] w fun e w' => e = .returned (.bool (stateOk 1 q t m r s k)) ∧ Below w.heap.size w w' := by
  rw [show stateOk 1 q t m r s k = isState t m r s k from rfl]
  have hb : Below w.heap.size w (w.alloc (.cells #[.int .i64 1, .int .i64 q, .int .i64 t, .int .i64 m, .int .i64 r, .int .i64 s, .int .i64 k, .slice ao xs.length cap] 28)) := (Below.refl _ _).alloc (Nat.le_refl _) _
  have HR := Lib.hid (hr.below hb); clear hb hr
  have HK := Lib.hid hk; have HQ := Lib.hid hq; have HZ := Lib.hid hz; have HY := Lib.hid hy; clear hk hq hz hy
  go_enter Try.func18, Try.ntmps18
  go_wp2_with (first | (go_at_call 47; refine (l06Kind_any _ _).mono ?_; rintro e w1 ⟨rfl, rfl⟩; rw [HK.out]) | (go_at_call 48; refine (l01In_any _ _ _ _).mono ?_; rintro e w1 ⟨rfl, rfl⟩; rw [HQ.out]) | (go_at_call 49; refine (l06Size_any _ _ _).mono ?_; rintro e w1 ⟨rfl, rfl⟩; rw [HZ.out]) | (go_at_call 50; refine (sIsBytes_any _ _ _ _ _ HR.out (by omega)).mono ?_; rintro e w1 ⟨rfl, rfl⟩; rw [HY.out]) | (go_at_call 52; refine (sIsState_any _ _ _ _ _ _).mono ?_; rintro e w2 ⟨rfl, b2⟩))
  go_ret
  exact ⟨rfl, below_box b2⟩
set_option maxRecDepth 100000 in
theorem sIsFrame2 (q t m r s k : Int) (ao : Option Addr) (cap : Nat) (xs : List Int) (w : World) (hr : Rd w ao xs.length xs) (hn : xs.length ≤ 1048576) (hk : kindOk 2 = true) (hq : inRange 0 7 q = true) (hz : sizeOk 2 xs.length = true) (hy : isBytes xs = true) : Calls Try.prog 18 #[.agg #[.int .i64 2, .int .i64 q, .int .i64 t, .int .i64 m, .int .i64 r, .int .i64 s, .int .i64 k, .slice ao xs.length cap]] w fun e w' => e = .returned (.bool (stateOk 2 q t m r s k)) ∧ Below w.heap.size w w' := by
  rw [show stateOk 2 q t m r s k = isState t m r s k from rfl]
  have hb : Below w.heap.size w (w.alloc (.cells #[.int .i64 2, .int .i64 q, .int .i64 t, .int .i64 m, .int .i64 r, .int .i64 s, .int .i64 k, .slice ao xs.length cap] 28)) := (Below.refl _ _).alloc (Nat.le_refl _) _
  have HR := Lib.hid (hr.below hb); clear hb hr
  have HK := Lib.hid hk; have HQ := Lib.hid hq; have HZ := Lib.hid hz; have HY := Lib.hid hy; clear hk hq hz hy
  go_enter Try.func18, Try.ntmps18
  go_wp2_with (first | (go_at_call 47; refine (l06Kind_any _ _).mono ?_; rintro e w1 ⟨rfl, rfl⟩; rw [HK.out]) | (go_at_call 48; refine (l01In_any _ _ _ _).mono ?_; rintro e w1 ⟨rfl, rfl⟩; rw [HQ.out]) | (go_at_call 49; refine (l06Size_any _ _ _).mono ?_; rintro e w1 ⟨rfl, rfl⟩; rw [HZ.out]) | (go_at_call 50; refine (sIsBytes_any _ _ _ _ _ HR.out (by omega)).mono ?_; rintro e w1 ⟨rfl, rfl⟩; rw [HY.out]) | (go_at_call 52; refine (sIsState_any _ _ _ _ _ _).mono ?_; rintro e w2 ⟨rfl, b2⟩))
  go_ret
  exact ⟨rfl, below_box b2⟩
set_option maxRecDepth 100000 in
theorem sIsFrame3 (q t m r s k : Int) (ao : Option Addr) (cap : Nat) (xs : List Int) (w : World) (hr : Rd w ao xs.length xs) (hn : xs.length ≤ 1048576) (hk : kindOk 3 = true) (hq : inRange 0 7 q = true) (hz : sizeOk 3 xs.length = true) (hy : isBytes xs = true) : Calls Try.prog 18 #[.agg #[.int .i64 3, .int .i64 q, .int .i64 t, .int .i64 m, .int .i64 r, .int .i64 s, .int .i64 k, .slice ao xs.length cap]] w fun e w' => e = .returned (.bool (stateOk 3 q t m r s k)) ∧ Below w.heap.size w w' := by
  have hb : Below w.heap.size w (w.alloc (.cells #[.int .i64 3, .int .i64 q, .int .i64 t, .int .i64 m, .int .i64 r, .int .i64 s, .int .i64 k, .slice ao xs.length cap] 28)) := (Below.refl _ _).alloc (Nat.le_refl _) _
  have HR := Lib.hid (hr.below hb); clear hb hr
  have HK := Lib.hid hk; have HQ := Lib.hid hq; have HZ := Lib.hid hz; have HY := Lib.hid hy; clear hk hq hz hy
  rcases hs : isState t m r s k with _ | _
  · rw [show stateOk 3 q t m r s k = false from by rw [so3, hs, Bool.false_and, Bool.and_false]]
    obtain ⟨xs0, e0, hX⟩ : ∃ xs0 e0, membersOf k = (xs0, e0) := ⟨_, _, rfl⟩
    have HX := Lib.hid hX; have HS := Lib.hid hs; clear hX hs
    go_enter Try.func18, Try.ntmps18
    go_wp2_with (first | (go_at_call 47; refine (l06Kind_any _ _).mono ?_; rintro e w1 ⟨rfl, rfl⟩; rw [HK.out]) | (go_at_call 48; refine (l01In_any _ _ _ _).mono ?_; rintro e w1 ⟨rfl, rfl⟩; rw [HQ.out]) | (go_at_call 49; refine (l06Size_any _ _ _).mono ?_; rintro e w1 ⟨rfl, rfl⟩; rw [HZ.out]) | (go_at_call 50; refine (sIsBytes_any _ _ _ _ _ HR.out (by omega)).mono ?_; rintro e w1 ⟨rfl, rfl⟩; rw [HY.out]) | (go_at_call 51; refine (sMembersOf_any _ _).mono ?_; rintro e w3 m3; rw [HX.out] at m3; obtain ⟨p3, cp3, rfl, -, -, b3⟩ := m3.get; have F3 := frame_new b3; have c1 := F3.c1; have c2 := F3.c2; have c3 := F3.c3; have c4 := F3.c4; have c5 := F3.c5; have c6 := F3.c6; clear F3) | (go_at_call 52; refine (sIsState_any _ _ _ _ _ _).mono ?_; rintro e w2 ⟨rfl, b2⟩; rw [HS.out]))
    go_ret
    exact ⟨rfl, below_two (below_box b3) b2⟩
  have hst := isState_iff.1 hs
  obtain ⟨k, rfl⟩ := Int.eq_ofNat_of_zero_le hst.2.2.2.2.1
  have hX := members_nat (k := k) (by omega)
  have hlen : (nodesTo k 32).length ≤ 32 := nodesTo_len k 32
  rw [so3, hs, show ((k : Nat) : Int).toNat = k from by omega]
  have HS := Lib.hid hs; clear hs hst
  generalize nodesTo k 32 = ys at hX hlen ⊢
  have HX := Lib.hid hX; clear hX
  by_cases h1 : m = 0
  rotate_left
  · have t1 : (m == 0) = false := by simp [h1]
    rw [show decide (m = 0) = false from decide_eq_false h1, Bool.false_and, Bool.and_false, Bool.and_false]
    clear h1
    go_enter Try.func18, Try.ntmps18
    go_wp2_with (first | (go_at_call 47; refine (l06Kind_any _ _).mono ?_; rintro e w1 ⟨rfl, rfl⟩; rw [HK.out]) | (go_at_call 48; refine (l01In_any _ _ _ _).mono ?_; rintro e w1 ⟨rfl, rfl⟩; rw [HQ.out]) | (go_at_call 49; refine (l06Size_any _ _ _).mono ?_; rintro e w1 ⟨rfl, rfl⟩; rw [HZ.out]) | (go_at_call 50; refine (sIsBytes_any _ _ _ _ _ HR.out (by omega)).mono ?_; rintro e w1 ⟨rfl, rfl⟩; rw [HY.out]) | (go_at_call 51; refine (sMembersOf_any _ _).mono ?_; rintro e w3 m3; rw [HX.out] at m3; obtain ⟨p3, cp3, rfl, -, -, b3⟩ := m3.get; have F3 := frame_new b3; have c1 := F3.c1; have c2 := F3.c2; have c3 := F3.c3; have c4 := F3.c4; have c5 := F3.c5; have c6 := F3.c6; clear F3) | (go_at_call 52; refine (sIsState_any _ _ _ _ _ _).mono ?_; rintro e w2 ⟨rfl, b2⟩; rw [HS.out]; have F4 := frame_new (below_two b3 b2); have d1 := F4.c1; have d3 := F4.c3; clear F4))
    go_ret
    exact ⟨rfl, below_two (below_box b3) b2⟩
  subst h1
  by_cases h2 : ys.length = 1
  rotate_left
  · rw [show decide (ys.length = 1) = false from decide_eq_false h2, Bool.and_false, Bool.and_false, Bool.and_false]
    have t2 : ((ys.length : Int) == 1) = false := by simp; omega
    clear h2
    go_enter Try.func18, Try.ntmps18
    go_wp2_with (first | (go_at_call 47; refine (l06Kind_any _ _).mono ?_; rintro e w1 ⟨rfl, rfl⟩; rw [HK.out]) | (go_at_call 48; refine (l01In_any _ _ _ _).mono ?_; rintro e w1 ⟨rfl, rfl⟩; rw [HQ.out]) | (go_at_call 49; refine (l06Size_any _ _ _).mono ?_; rintro e w1 ⟨rfl, rfl⟩; rw [HZ.out]) | (go_at_call 50; refine (sIsBytes_any _ _ _ _ _ HR.out (by omega)).mono ?_; rintro e w1 ⟨rfl, rfl⟩; rw [HY.out]) | (go_at_call 51; refine (sMembersOf_any _ _).mono ?_; rintro e w3 m3; rw [HX.out] at m3; obtain ⟨p3, cp3, rfl, -, -, b3⟩ := m3.get; have F3 := frame_new b3; have c1 := F3.c1; have c2 := F3.c2; have c3 := F3.c3; have c4 := F3.c4; have c5 := F3.c5; have c6 := F3.c6; clear F3) | (go_at_call 52; refine (sIsState_any _ _ _ _ _ _).mono ?_; rintro e w2 ⟨rfl, b2⟩; rw [HS.out]; have F4 := frame_new (below_two b3 b2); have d1 := F4.c1; have d3 := F4.c3; clear F4))
    go_ret
    exact ⟨rfl, below_two (below_box b3) b2⟩
  rw [show (true && (decide ((0 : Int) = 0) && decide (ys.length = 1))) = true from by simp [h2], Bool.and_true]
  have t2 : (ys.length : Int) = 1 := by omega
  have t3 : ((ys.length : Int) == 1) = true := by simp; omega
  go_enter Try.func18, Try.ntmps18
  go_wp2_with (first | (go_at_call 47; refine (l06Kind_any _ _).mono ?_; rintro e w1 ⟨rfl, rfl⟩; rw [HK.out]) | (go_at_call 48; refine (l01In_any _ _ _ _).mono ?_; rintro e w1 ⟨rfl, rfl⟩; rw [HQ.out]) | (go_at_call 49; refine (l06Size_any _ _ _).mono ?_; rintro e w1 ⟨rfl, rfl⟩; rw [HZ.out]) | (go_at_call 50; refine (sIsBytes_any _ _ _ _ _ HR.out (by omega)).mono ?_; rintro e w1 ⟨rfl, rfl⟩; rw [HY.out]) | (go_at_call 51; refine (sMembersOf_any _ _).mono ?_; rintro e w3 m3; rw [HX.out] at m3; obtain ⟨p3, cp3, rfl, -, -, b3⟩ := m3.get; have F3 := frame_new b3; have c1 := F3.c1; have c2 := F3.c2; have c3 := F3.c3; have c4 := F3.c4; have c5 := F3.c5; have c6 := F3.c6; clear F3) | (go_at_call 52; refine (sIsState_any _ _ _ _ _ _).mono ?_; rintro e w2 ⟨rfl, b2⟩; rw [HS.out]; have F4 := frame_new (below_two b3 b2); have d1 := F4.c1; have d3 := F4.c3; clear F4))
  go_ret
  exact ⟨rfl, below_two (below_box b3) b2⟩
theorem sIsFrame_any (a q t m r s k : Int) (ao : Option Addr) (cap : Nat) (xs : List Int) (w : World) (hr : Rd w ao xs.length xs) (hn : xs.length ≤ 1048576) : Calls Try.prog 18 #[.agg #[.int .i64 a, .int .i64 q, .int .i64 t, .int .i64 m, .int .i64 r, .int .i64 s, .int .i64 k, .slice ao xs.length cap]] w fun e w' => e = .returned (.bool (isFrame ⟨a, q, t, m, r, s, k, xs⟩)) ∧ Below w.heap.size w w' := by
  rcases hk : kindOk a with _ | _
  · rw [if_kind hk]; exact sIsFrame_no a q t m r s k ao cap xs w hr hn (fun h => by rw [hk] at h; cases h)
  rcases hq : inRange 0 7 q with _ | _
  · rw [if_req hq]; exact sIsFrame_no a q t m r s k ao cap xs w hr hn (fun _ h => by rw [hq] at h; cases h)
  rcases hz : sizeOk a xs.length with _ | _
  · rw [if_size hz]; exact sIsFrame_no a q t m r s k ao cap xs w hr hn (fun _ _ h => by rw [hz] at h; cases h)
  rcases hy : isBytes xs with _ | _
  · rw [if_bytes hy]; exact sIsFrame_no a q t m r s k ao cap xs w hr hn (fun _ _ _ => hy)
  rw [if_all' hk hq hz hy]
  rcases kindOk_four hk with rfl | rfl | rfl | rfl
  · exact sIsFrame0 q t m r s k ao cap xs w hr hn hk hq hz hy
  · exact sIsFrame1 q t m r s k ao cap xs w hr hn hk hq hz hy
  · exact sIsFrame2 q t m r s k ao cap xs w hr hn hk hq hz hy
  · exact sIsFrame3 q t m r s k ao cap xs w hr hn hk hq hz hy
end Go.Proofs.Ytnblbemkpojjdaa
