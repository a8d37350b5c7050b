/-
  Chapter 8: whether a frame fits a descriptor, on both sides.
-/
import Derived.Test.YtjejflngaelgkaaD2
import Derived.Test.YtjejflngaelgkaaSixB
import Derived.Test.YtjejflngaelgkaaSixC
namespace Go.Proofs.Ytjejflngaelgkaa
open Go.RowKit

/-- The two structs that a call lays first. -/
theorem df_new {T U : Nat} {w w' : World} {n a z u : Int} {c : Bool} {b q t m r s k : Int} {v : Value} (h : Below ((w.alloc (.cells #[.int .i64 n, .int .i64 a, .int .i64 z, .int .i64 u, .bool c] T)).alloc (.cells #[.int .i64 b, .int .i64 q, .int .i64 t, .int .i64 m, .int .i64 r, .int .i64 s, .int .i64 k, v] U)).heap.size ((w.alloc (.cells #[.int .i64 n, .int .i64 a, .int .i64 z, .int .i64 u, .bool c] T)).alloc (.cells #[.int .i64 b, .int .i64 q, .int .i64 t, .int .i64 m, .int .i64 r, .int .i64 s, .int .i64 k, v] U)) w') :
    DescAt T w' w.heap.size n a z u c ∧ FrameAt U w' (w.heap.size + 1) b q t m r s k v :=
  ⟨((DescAt.new w).below (B := (w.alloc (.cells #[.int .i64 n, .int .i64 a, .int .i64 z, .int .i64 u, .bool c] T)).heap.size) ((Below.refl _ _).alloc (Nat.le_refl _) _) (by simp)).below h (by simp; omega), by
    have e : (w.alloc (.cells #[.int .i64 n, .int .i64 a, .int .i64 z, .int .i64 u, .bool c] T)).heap.size = w.heap.size + 1 := by simp
    have := (FrameAt.new (T := U) (a := b) (q := q) (t := t) (m := m) (r := r) (s := s) (k := k) (v := v) (w.alloc (.cells #[.int .i64 n, .int .i64 a, .int .i64 z, .int .i64 u, .bool c] T))).below h (by simp)
    rwa [e] at this⟩
theorem ft_desc {d : Ds} {f : Fr} (h : isDesc d = false) : fits d f = false := by unfold fits; rw [h, Bool.false_and]
theorem ft_frame {d : Ds} {f : Fr} (h : isFrame f = false) : fits d f = false := by unfold fits; rw [h, Bool.false_and, Bool.and_false]
theorem ft_kind {d : Ds} {f : Fr} (h : f.kind ≠ d.kind) : fits d f = false := by unfold fits; simp [h]
theorem ft_size {d : Ds} {f : Fr} (h : (f.data.length : Int) ≠ d.size) : fits d f = false := by unfold fits; simp [h]
theorem ft_all {d : Ds} {f : Fr} (h1 : isDesc d = true) (h2 : isFrame f = true) (h3 : f.kind = d.kind) (h4 : (f.data.length : Int) = d.size) : fits d f = (d.chg || decide (f.req = 0)) := by unfold fits; simp [h1, h2, h3, h4]
set_option maxRecDepth 100000 in
theorem fits_any (n a z u : Int) (c : Bool) (b q t m r s k : Int) (ao : Option Addr) (cap : Nat) (xs : List Int) (w : World) (hr : Rd w ao xs.length xs) (hn : xs.length ≤ 1048576) : Calls Try.prog 26 #[.agg #[.int .i64 n, .int .i64 a, .int .i64 z, .int .i64 u, .bool c], .agg #[.int .i64 b, .int .i64 q, .int .i64 t, .int .i64 m, .int .i64 r, .int .i64 s, .int .i64 k, .slice ao xs.length cap]] w fun e w' => e = .returned (.bool (fits ⟨n, a, z, u, c⟩ ⟨b, q, t, m, r, s, k, xs⟩)) ∧ Below w.heap.size w w' := by
  have hB : Below w.heap.size w ((w.alloc (.cells #[.int .i64 n, .int .i64 a, .int .i64 z, .int .i64 u, .bool c] 25)).alloc (.cells #[.int .i64 b, .int .i64 q, .int .i64 t, .int .i64 m, .int .i64 r, .int .i64 s, .int .i64 k, .slice ao xs.length cap] 41)) := ((Below.refl _ _).alloc (Nat.le_refl _) _).alloc (by simp) _
  have HR := Lib.hid (hr.below hB)
  have hi := fun (W : World) => isDescriptor_any n a z u c W
  have hf := fun (W : World) (h : Rd W ao xs.length xs) => isFrame_any b q t m r s k ao cap xs W h hn
  have HB := Lib.hid hB; clear hr hB
  rcases h1 : isDesc ⟨n, a, z, u, c⟩ with _ | _
  · rw [ft_desc h1]
    rw [h1] at hi
    have HI := Lib.hid hi; clear hi hf h1
    go_enter Try.func26, Try.ntmps26
    go_wp2_with ((go_at_call 22; refine (HI.out _).mono ?_; rintro e w1 ⟨rfl, b1⟩; obtain ⟨hd, he⟩ := df_new b1; have d1 := hd.c1; have d2 := hd.c2; have d4 := hd.c4; have e0 := he.c0; have e1 := he.c1; have e2 := he.c2; have e3 := he.c3; have e4 := he.c4; have e5 := he.c5; have e6 := he.c6; have e7 := he.c7; clear hd he))
    go_ret
    exact ⟨rfl, below_two HB.out b1⟩
  rcases h2 : isFrame ⟨b, q, t, m, r, s, k, xs⟩ with _ | _
  · rw [ft_frame h2]
    rw [h1] at hi; rw [h2] at hf
    have HI := Lib.hid hi; have HF := Lib.hid hf; clear hi hf h1 h2
    go_enter Try.func26, Try.ntmps26
    go_wp2_with (first | (go_at_call 22; refine (HI.out _).mono ?_; rintro e w1 ⟨rfl, b1⟩; obtain ⟨hd, he⟩ := df_new b1; have d1 := hd.c1; have d2 := hd.c2; have d4 := hd.c4; have e0 := he.c0; have e1 := he.c1; have e2 := he.c2; have e3 := he.c3; have e4 := he.c4; have e5 := he.c5; have e6 := he.c6; have e7 := he.c7; clear hd he) | (go_at_call 32; refine (HF.out _ (HR.out.below b1)).mono ?_; rintro e w2 ⟨rfl, b2⟩; clear d1 d2 d4 e0 e1 e2 e3 e4 e5 e6 e7; have b3 := below_two b1 b2; obtain ⟨hd, he⟩ := df_new b3; have d1 := hd.c1; have d2 := hd.c2; have d4 := hd.c4; have e0 := he.c0; have e1 := he.c1; have e7 := he.c7; clear hd he))
    go_ret
    exact ⟨rfl, below_two HB.out b3⟩
  by_cases h3 : b = a
  rotate_left
  · rw [ft_kind h3]
    rw [h1] at hi; rw [h2] at hf
    have t3 : (b == a) = false := by simp [h3]
    have HI := Lib.hid hi; have HF := Lib.hid hf; clear hi hf h1 h2 h3
    go_enter Try.func26, Try.ntmps26
    go_wp2_with (first | (go_at_call 22; refine (HI.out _).mono ?_; rintro e w1 ⟨rfl, b1⟩; obtain ⟨hd, he⟩ := df_new b1; have d1 := hd.c1; have d2 := hd.c2; have d4 := hd.c4; have e0 := he.c0; have e1 := he.c1; have e2 := he.c2; have e3 := he.c3; have e4 := he.c4; have e5 := he.c5; have e6 := he.c6; have e7 := he.c7; clear hd he) | (go_at_call 32; refine (HF.out _ (HR.out.below b1)).mono ?_; rintro e w2 ⟨rfl, b2⟩; clear d1 d2 d4 e0 e1 e2 e3 e4 e5 e6 e7; have b3 := below_two b1 b2; obtain ⟨hd, he⟩ := df_new b3; have d1 := hd.c1; have d2 := hd.c2; have d4 := hd.c4; have e0 := he.c0; have e1 := he.c1; have e7 := he.c7; clear hd he))
    go_ret
    exact ⟨rfl, below_two HB.out b3⟩
  have t3 : (b == a) = true := by simp [h3]
  by_cases h4 : (xs.length : Int) = z
  rotate_left
  · rw [ft_size h4]
    rw [h1] at hi; rw [h2] at hf
    have t4 : ((xs.length : Int) == z) = false := by simp [h4]
    have HI := Lib.hid hi; have HF := Lib.hid hf; clear hi hf h1 h2 h3 h4
    go_enter Try.func26, Try.ntmps26
    go_wp2_with (first | (go_at_call 22; refine (HI.out _).mono ?_; rintro e w1 ⟨rfl, b1⟩; obtain ⟨hd, he⟩ := df_new b1; have d1 := hd.c1; have d2 := hd.c2; have d4 := hd.c4; have e0 := he.c0; have e1 := he.c1; have e2 := he.c2; have e3 := he.c3; have e4 := he.c4; have e5 := he.c5; have e6 := he.c6; have e7 := he.c7; clear hd he) | (go_at_call 32; refine (HF.out _ (HR.out.below b1)).mono ?_; rintro e w2 ⟨rfl, b2⟩; clear d1 d2 d4 e0 e1 e2 e3 e4 e5 e6 e7; have b3 := below_two b1 b2; obtain ⟨hd, he⟩ := df_new b3; have d1 := hd.c1; have d2 := hd.c2; have d4 := hd.c4; have e0 := he.c0; have e1 := he.c1; have e7 := he.c7; clear hd he))
    go_ret
    exact ⟨rfl, below_two HB.out b3⟩
  have t4 : ((xs.length : Int) == z) = true := by simp [h4]
  rw [ft_all h1 h2 h3 h4]
  rw [h1] at hi; rw [h2] at hf
  simp only
  have HI := Lib.hid hi; have HF := Lib.hid hf; clear hi hf h1 h2 h3 h4
  cases c with
  | true =>
    rw [Bool.true_or]
    go_enter Try.func26, Try.ntmps26
    go_wp2_with (first | (go_at_call 22; refine (HI.out _).mono ?_; rintro e w1 ⟨rfl, b1⟩; obtain ⟨hd, he⟩ := df_new b1; have d1 := hd.c1; have d2 := hd.c2; have d4 := hd.c4; have e0 := he.c0; have e1 := he.c1; have e2 := he.c2; have e3 := he.c3; have e4 := he.c4; have e5 := he.c5; have e6 := he.c6; have e7 := he.c7; clear hd he) | (go_at_call 32; refine (HF.out _ (HR.out.below b1)).mono ?_; rintro e w2 ⟨rfl, b2⟩; clear d1 d2 d4 e0 e1 e2 e3 e4 e5 e6 e7; have b3 := below_two b1 b2; obtain ⟨hd, he⟩ := df_new b3; have d1 := hd.c1; have d2 := hd.c2; have d4 := hd.c4; have e0 := he.c0; have e1 := he.c1; have e7 := he.c7; clear hd he))
    go_ret
    exact ⟨rfl, below_two HB.out b3⟩
  | false =>
    rw [Bool.false_or]
    by_cases h5 : q = 0
    · have t5 : (q == 0) = true := by simp [h5]
      rw [decide_eq_true h5]
      clear h5
      go_enter Try.func26, Try.ntmps26
      go_wp2_with (first | (go_at_call 22; refine (HI.out _).mono ?_; rintro e w1 ⟨rfl, b1⟩; obtain ⟨hd, he⟩ := df_new b1; have d1 := hd.c1; have d2 := hd.c2; have d4 := hd.c4; have e0 := he.c0; have e1 := he.c1; have e2 := he.c2; have e3 := he.c3; have e4 := he.c4; have e5 := he.c5; have e6 := he.c6; have e7 := he.c7; clear hd he) | (go_at_call 32; refine (HF.out _ (HR.out.below b1)).mono ?_; rintro e w2 ⟨rfl, b2⟩; clear d1 d2 d4 e0 e1 e2 e3 e4 e5 e6 e7; have b3 := below_two b1 b2; obtain ⟨hd, he⟩ := df_new b3; have d1 := hd.c1; have d2 := hd.c2; have d4 := hd.c4; have e0 := he.c0; have e1 := he.c1; have e7 := he.c7; clear hd he))
      go_ret
      exact ⟨rfl, below_two HB.out b3⟩
    · have t5 : (q == 0) = false := by simp [h5]
      rw [decide_eq_false h5]
      clear h5
      go_enter Try.func26, Try.ntmps26
      go_wp2_with (first | (go_at_call 22; refine (HI.out _).mono ?_; rintro e w1 ⟨rfl, b1⟩; obtain ⟨hd, he⟩ := df_new b1; have d1 := hd.c1; have d2 := hd.c2; have d4 := hd.c4; have e0 := he.c0; have e1 := he.c1; have e2 := he.c2; have e3 := he.c3; have e4 := he.c4; have e5 := he.c5; have e6 := he.c6; have e7 := he.c7; clear hd he) | (go_at_call 32; refine (HF.out _ (HR.out.below b1)).mono ?_; rintro e w2 ⟨rfl, b2⟩; clear d1 d2 d4 e0 e1 e2 e3 e4 e5 e6 e7; have b3 := below_two b1 b2; obtain ⟨hd, he⟩ := df_new b3; have d1 := hd.c1; have d2 := hd.c2; have d4 := hd.c4; have e0 := he.c0; have e1 := he.c1; have e7 := he.c7; clear hd he))
      go_ret
      exact ⟨rfl, below_two HB.out b3⟩
set_option maxRecDepth 100000 in
theorem sFits_any (n a z u : Int) (c : Bool) (b q t m r s k : Int) (ao : Option Addr) (cap : Nat) (xs : List Int) (w : World) (hr : Rd w ao xs.length xs) (hn : xs.length ≤ 1048576) : Calls Try.prog 30 #[.agg #[.int .i64 n, .int .i64 a, .int .i64 z, .int .i64 u, .bool c], .agg #[.int .i64 b, .int .i64 q, .int .i64 t, .int .i64 m, .int .i64 r, .int .i64 s, .int .i64 k, .slice ao xs.length cap]] w fun e w' => e = .returned (.bool (fits ⟨n, a, z, u, c⟩ ⟨b, q, t, m, r, s, k, xs⟩)) ∧ Below w.heap.size w w' := by
  have hB : Below w.heap.size w ((w.alloc (.cells #[.int .i64 n, .int .i64 a, .int .i64 z, .int .i64 u, .bool c] 25)).alloc (.cells #[.int .i64 b, .int .i64 q, .int .i64 t, .int .i64 m, .int .i64 r, .int .i64 s, .int .i64 k, .slice ao xs.length cap] 41)) := ((Below.refl _ _).alloc (Nat.le_refl _) _).alloc (by simp) _
  have HR := Lib.hid (hr.below hB)
  have hi := fun (W : World) => sIsDescriptor_any n a z u c W
  have hf := fun (W : World) (h : Rd W ao xs.length xs) => sIsFrame_any b q t m r s k ao cap xs W h hn
  have HB := Lib.hid hB; clear hr hB
  rcases h1 : isDesc ⟨n, a, z, u, c⟩ with _ | _
  · rw [ft_desc h1]
    rw [h1] at hi
    have HI := Lib.hid hi; clear hi hf h1
    go_enter Try.func30, Try.ntmps30
    go_wp2_with ((go_at_call 23; refine (HI.out _).mono ?_; rintro e w1 ⟨rfl, b1⟩; obtain ⟨hd, he⟩ := df_new b1; have d1 := hd.c1; have d2 := hd.c2; have d4 := hd.c4; have e0 := he.c0; have e1 := he.c1; have e2 := he.c2; have e3 := he.c3; have e4 := he.c4; have e5 := he.c5; have e6 := he.c6; have e7 := he.c7; clear hd he))
    go_ret
    exact ⟨rfl, below_two HB.out b1⟩
  rcases h2 : isFrame ⟨b, q, t, m, r, s, k, xs⟩ with _ | _
  · rw [ft_frame h2]
    rw [h1] at hi; rw [h2] at hf
    have HI := Lib.hid hi; have HF := Lib.hid hf; clear hi hf h1 h2
    go_enter Try.func30, Try.ntmps30
    go_wp2_with (first | (go_at_call 23; refine (HI.out _).mono ?_; rintro e w1 ⟨rfl, b1⟩; obtain ⟨hd, he⟩ := df_new b1; have d1 := hd.c1; have d2 := hd.c2; have d4 := hd.c4; have e0 := he.c0; have e1 := he.c1; have e2 := he.c2; have e3 := he.c3; have e4 := he.c4; have e5 := he.c5; have e6 := he.c6; have e7 := he.c7; clear hd he) | (go_at_call 66; refine (HF.out _ (HR.out.below b1)).mono ?_; rintro e w2 ⟨rfl, b2⟩; clear d1 d2 d4 e0 e1 e2 e3 e4 e5 e6 e7; have b3 := below_two b1 b2; obtain ⟨hd, he⟩ := df_new b3; have d1 := hd.c1; have d2 := hd.c2; have d4 := hd.c4; have e0 := he.c0; have e1 := he.c1; have e7 := he.c7; clear hd he))
    go_ret
    exact ⟨rfl, below_two HB.out b3⟩
  by_cases h3 : b = a
  rotate_left
  · rw [ft_kind h3]
    rw [h1] at hi; rw [h2] at hf
    have t3 : (b == a) = false := by simp [h3]
    have HI := Lib.hid hi; have HF := Lib.hid hf; clear hi hf h1 h2 h3
    go_enter Try.func30, Try.ntmps30
    go_wp2_with (first | (go_at_call 23; refine (HI.out _).mono ?_; rintro e w1 ⟨rfl, b1⟩; obtain ⟨hd, he⟩ := df_new b1; have d1 := hd.c1; have d2 := hd.c2; have d4 := hd.c4; have e0 := he.c0; have e1 := he.c1; have e2 := he.c2; have e3 := he.c3; have e4 := he.c4; have e5 := he.c5; have e6 := he.c6; have e7 := he.c7; clear hd he) | (go_at_call 66; refine (HF.out _ (HR.out.below b1)).mono ?_; rintro e w2 ⟨rfl, b2⟩; clear d1 d2 d4 e0 e1 e2 e3 e4 e5 e6 e7; have b3 := below_two b1 b2; obtain ⟨hd, he⟩ := df_new b3; have d1 := hd.c1; have d2 := hd.c2; have d4 := hd.c4; have e0 := he.c0; have e1 := he.c1; have e7 := he.c7; clear hd he))
    go_ret
    exact ⟨rfl, below_two HB.out b3⟩
  have t3 : (b == a) = true := by simp [h3]
  by_cases h4 : (xs.length : Int) = z
  rotate_left
  · rw [ft_size h4]
    rw [h1] at hi; rw [h2] at hf
    have t4 : ((xs.length : Int) == z) = false := by simp [h4]
    have HI := Lib.hid hi; have HF := Lib.hid hf; clear hi hf h1 h2 h3 h4
    go_enter Try.func30, Try.ntmps30
    go_wp2_with (first | (go_at_call 23; refine (HI.out _).mono ?_; rintro e w1 ⟨rfl, b1⟩; obtain ⟨hd, he⟩ := df_new b1; have d1 := hd.c1; have d2 := hd.c2; have d4 := hd.c4; have e0 := he.c0; have e1 := he.c1; have e2 := he.c2; have e3 := he.c3; have e4 := he.c4; have e5 := he.c5; have e6 := he.c6; have e7 := he.c7; clear hd he) | (go_at_call 66; refine (HF.out _ (HR.out.below b1)).mono ?_; rintro e w2 ⟨rfl, b2⟩; clear d1 d2 d4 e0 e1 e2 e3 e4 e5 e6 e7; have b3 := below_two b1 b2; obtain ⟨hd, he⟩ := df_new b3; have d1 := hd.c1; have d2 := hd.c2; have d4 := hd.c4; have e0 := he.c0; have e1 := he.c1; have e7 := he.c7; clear hd he))
    go_ret
    exact ⟨rfl, below_two HB.out b3⟩
  have t4 : ((xs.length : Int) == z) = true := by simp [h4]
  rw [ft_all h1 h2 h3 h4]
  rw [h1] at hi; rw [h2] at hf
  simp only
  have HI := Lib.hid hi; have HF := Lib.hid hf; clear hi hf h1 h2 h3 h4
  cases c with
  | true =>
    rw [Bool.true_or]
    go_enter Try.func30, Try.ntmps30
    go_wp2_with (first | (go_at_call 23; refine (HI.out _).mono ?_; rintro e w1 ⟨rfl, b1⟩; obtain ⟨hd, he⟩ := df_new b1; have d1 := hd.c1; have d2 := hd.c2; have d4 := hd.c4; have e0 := he.c0; have e1 := he.c1; have e2 := he.c2; have e3 := he.c3; have e4 := he.c4; have e5 := he.c5; have e6 := he.c6; have e7 := he.c7; clear hd he) | (go_at_call 66; refine (HF.out _ (HR.out.below b1)).mono ?_; rintro e w2 ⟨rfl, b2⟩; clear d1 d2 d4 e0 e1 e2 e3 e4 e5 e6 e7; have b3 := below_two b1 b2; obtain ⟨hd, he⟩ := df_new b3; have d1 := hd.c1; have d2 := hd.c2; have d4 := hd.c4; have e0 := he.c0; have e1 := he.c1; have e7 := he.c7; clear hd he))
    go_ret
    exact ⟨rfl, below_two HB.out b3⟩
  | false =>
    rw [Bool.false_or]
    by_cases h5 : q = 0
    · have t5 : (q == 0) = true := by simp [h5]
      rw [decide_eq_true h5]
      clear h5
      go_enter Try.func30, Try.ntmps30
      go_wp2_with (first | (go_at_call 23; refine (HI.out _).mono ?_; rintro e w1 ⟨rfl, b1⟩; obtain ⟨hd, he⟩ := df_new b1; have d1 := hd.c1; have d2 := hd.c2; have d4 := hd.c4; have e0 := he.c0; have e1 := he.c1; have e2 := he.c2; have e3 := he.c3; have e4 := he.c4; have e5 := he.c5; have e6 := he.c6; have e7 := he.c7; clear hd he) | (go_at_call 66; refine (HF.out _ (HR.out.below b1)).mono ?_; rintro e w2 ⟨rfl, b2⟩; clear d1 d2 d4 e0 e1 e2 e3 e4 e5 e6 e7; have b3 := below_two b1 b2; obtain ⟨hd, he⟩ := df_new b3; have d1 := hd.c1; have d2 := hd.c2; have d4 := hd.c4; have e0 := he.c0; have e1 := he.c1; have e7 := he.c7; clear hd he))
      go_ret
      exact ⟨rfl, below_two HB.out b3⟩
    · have t5 : (q == 0) = false := by simp [h5]
      rw [decide_eq_false h5]
      clear h5
      go_enter Try.func30, Try.ntmps30
      go_wp2_with (first | (go_at_call 23; refine (HI.out _).mono ?_; rintro e w1 ⟨rfl, b1⟩; obtain ⟨hd, he⟩ := df_new b1; have d1 := hd.c1; have d2 := hd.c2; have d4 := hd.c4; have e0 := he.c0; have e1 := he.c1; have e2 := he.c2; have e3 := he.c3; have e4 := he.c4; have e5 := he.c5; have e6 := he.c6; have e7 := he.c7; clear hd he) | (go_at_call 66; refine (HF.out _ (HR.out.below b1)).mono ?_; rintro e w2 ⟨rfl, b2⟩; clear d1 d2 d4 e0 e1 e2 e3 e4 e5 e6 e7; have b3 := below_two b1 b2; obtain ⟨hd, he⟩ := df_new b3; have d1 := hd.c1; have d2 := hd.c2; have d4 := hd.c4; have e0 := he.c0; have e1 := he.c1; have e7 := he.c7; clear hd he))
      go_ret
      exact ⟨rfl, below_two HB.out b3⟩
end Go.Proofs.Ytjejflngaelgkaa
