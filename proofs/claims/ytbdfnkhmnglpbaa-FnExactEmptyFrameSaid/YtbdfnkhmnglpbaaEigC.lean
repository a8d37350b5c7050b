/-
  Chapter 8: whether a frame fits a descriptor, on both sides.
  Chapter 8: EmptyFrame of both sides.
  Chapter 8: a frame laid in a block by a law, whatever the order.
-/
import Derived.Test.YtbdfnkhmnglpbaaEigA
import Derived.Test.YtbdfnkhmnglpbaaSixB
import Derived.Test.YtbdfnkhmnglpbaaSixC
import Derived.Test.YtbdfnkhmnglpbaaSixD
import Derived.Test.YtbdfnkhmnglpbaaGH
import Derived.Deep.CutBlock
import Derived.Deep.RegionHeld3
import Derived.Test.YtbdfnkhmnglpbaaBase
namespace Go.Proofs.Ytbdfnkhmnglpbaa
section
open Go.RowKit

/-- The two structs that a call lays first. -/
theorem df_new {T U : Nat} {w w' : World} {n a z u : Int} {c : Bool} {b q t m r s k : Int} {v : Value} (h : Below ((w.alloc (.cells #[.int .i64 n, .int .i64 a, .int .i64 z, .int .i64 u, .bool c] T)).alloc (.cells #[.int .i64 b, .int .i64 q, .int .i64 t, .int .i64 m, .int .i64 r, .int .i64 s, .int .i64 k, v] U)).heap.size ((w.alloc (.cells #[.int .i64 n, .int .i64 a, .int .i64 z, .int .i64 u, .bool c] T)).alloc (.cells #[.int .i64 b, .int .i64 q, .int .i64 t, .int .i64 m, .int .i64 r, .int .i64 s, .int .i64 k, v] U)) w') :
    DescAt T w' w.heap.size n a z u c ∧ FrameAt U w' (w.heap.size + 1) b q t m r s k v :=
  ⟨((DescAt.new w).below (B := (w.alloc (.cells #[.int .i64 n, .int .i64 a, .int .i64 z, .int .i64 u, .bool c] T)).heap.size) ((Below.refl _ _).alloc (Nat.le_refl _) _) (by simp)).below h (by simp; omega), by
    have e : (w.alloc (.cells #[.int .i64 n, .int .i64 a, .int .i64 z, .int .i64 u, .bool c] T)).heap.size = w.heap.size + 1 := by simp
    have := (FrameAt.new (T := U) (a := b) (q := q) (t := t) (m := m) (r := r) (s := s) (k := k) (v := v) (w.alloc (.cells #[.int .i64 n, .int .i64 a, .int .i64 z, .int .i64 u, .bool c] T))).below h (by simp)
    rwa [e] at this⟩
theorem ft_desc {d : Ds} {f : Fr} (h : isDesc d = false) : fits d f = false := by unfold fits; rw [h, Bool.false_and]
theorem ft_frame {d : Ds} {f : Fr} (h : isFrame f = false) : fits d f = false := by unfold fits; rw [h, Bool.false_and, Bool.and_false]
theorem ft_kind {d : Ds} {f : Fr} (h : f.kind ≠ d.kind) : fits d f = false := by unfold fits; simp [h]
theorem ft_size {d : Ds} {f : Fr} (h : (f.data.length : Int) ≠ d.size) : fits d f = false := by unfold fits; simp [h]
theorem ft_all {d : Ds} {f : Fr} (h1 : isDesc d = true) (h2 : isFrame f = true) (h3 : f.kind = d.kind) (h4 : (f.data.length : Int) = d.size) : fits d f = (d.chg || decide (f.req = 0)) := by unfold fits; simp [h1, h2, h3, h4]
set_option maxRecDepth 100000 in
theorem fits_any (n a z u : Int) (c : Bool) (b q t m r s k : Int) (ao : Option Addr) (cap : Nat) (xs : List Int) (w : World) (hr : Rd w ao xs.length xs) (hn : xs.length ≤ 1048576) : Calls Try.prog 47 #[.agg #[.int .i64 n, .int .i64 a, .int .i64 z, .int .i64 u, .bool c], .agg #[.int .i64 b, .int .i64 q, .int .i64 t, .int .i64 m, .int .i64 r, .int .i64 s, .int .i64 k, .slice ao xs.length cap]] w fun e w' => e = .returned (.bool (fits ⟨n, a, z, u, c⟩ ⟨b, q, t, m, r, s, k, xs⟩)) ∧ Below w.heap.size w w' := by
  have hB : Below w.heap.size w ((w.alloc (.cells #[.int .i64 n, .int .i64 a, .int .i64 z, .int .i64 u, .bool c] 49)).alloc (.cells #[.int .i64 b, .int .i64 q, .int .i64 t, .int .i64 m, .int .i64 r, .int .i64 s, .int .i64 k, .slice ao xs.length cap] 28)) := ((Below.refl _ _).alloc (Nat.le_refl _) _).alloc (by simp) _
  have HR := Lib.hid (hr.below hB)
  have hi := fun (W : World) => isDescriptor_any n a z u c W
  have hf := fun (W : World) (h : Rd W ao xs.length xs) => isFrame_any b q t m r s k ao cap xs W h hn
  have HB := Lib.hid hB; clear hr hB
  rcases h1 : isDesc ⟨n, a, z, u, c⟩ with _ | _
  · rw [ft_desc h1]
    rw [h1] at hi
    have HI := Lib.hid hi; clear hi hf h1
    go_enter Try.func47, Try.ntmps47
    go_wp2_with ((go_at_call 43; refine (HI.out _).mono ?_; rintro e w1 ⟨rfl, b1⟩; obtain ⟨hd, he⟩ := df_new b1; have d1 := hd.c1; have d2 := hd.c2; have d4 := hd.c4; have e0 := he.c0; have e1 := he.c1; have e2 := he.c2; have e3 := he.c3; have e4 := he.c4; have e5 := he.c5; have e6 := he.c6; have e7 := he.c7; clear hd he))
    go_ret
    exact ⟨rfl, below_two HB.out b1⟩
  rcases h2 : isFrame ⟨b, q, t, m, r, s, k, xs⟩ with _ | _
  · rw [ft_frame h2]
    rw [h1] at hi; rw [h2] at hf
    have HI := Lib.hid hi; have HF := Lib.hid hf; clear hi hf h1 h2
    go_enter Try.func47, Try.ntmps47
    go_wp2_with (first | (go_at_call 43; refine (HI.out _).mono ?_; rintro e w1 ⟨rfl, b1⟩; obtain ⟨hd, he⟩ := df_new b1; have d1 := hd.c1; have d2 := hd.c2; have d4 := hd.c4; have e0 := he.c0; have e1 := he.c1; have e2 := he.c2; have e3 := he.c3; have e4 := he.c4; have e5 := he.c5; have e6 := he.c6; have e7 := he.c7; clear hd he) | (go_at_call 52; refine (HF.out _ (HR.out.below b1)).mono ?_; rintro e w2 ⟨rfl, b2⟩; clear d1 d2 d4 e0 e1 e2 e3 e4 e5 e6 e7; have b3 := below_two b1 b2; obtain ⟨hd, he⟩ := df_new b3; have d1 := hd.c1; have d2 := hd.c2; have d4 := hd.c4; have e0 := he.c0; have e1 := he.c1; have e7 := he.c7; clear hd he))
    go_ret
    exact ⟨rfl, below_two HB.out b3⟩
  by_cases h3 : b = a
  rotate_left
  · rw [ft_kind h3]
    rw [h1] at hi; rw [h2] at hf
    have t3 : (b == a) = false := by simp [h3]
    have HI := Lib.hid hi; have HF := Lib.hid hf; clear hi hf h1 h2 h3
    go_enter Try.func47, Try.ntmps47
    go_wp2_with (first | (go_at_call 43; refine (HI.out _).mono ?_; rintro e w1 ⟨rfl, b1⟩; obtain ⟨hd, he⟩ := df_new b1; have d1 := hd.c1; have d2 := hd.c2; have d4 := hd.c4; have e0 := he.c0; have e1 := he.c1; have e2 := he.c2; have e3 := he.c3; have e4 := he.c4; have e5 := he.c5; have e6 := he.c6; have e7 := he.c7; clear hd he) | (go_at_call 52; refine (HF.out _ (HR.out.below b1)).mono ?_; rintro e w2 ⟨rfl, b2⟩; clear d1 d2 d4 e0 e1 e2 e3 e4 e5 e6 e7; have b3 := below_two b1 b2; obtain ⟨hd, he⟩ := df_new b3; have d1 := hd.c1; have d2 := hd.c2; have d4 := hd.c4; have e0 := he.c0; have e1 := he.c1; have e7 := he.c7; clear hd he))
    go_ret
    exact ⟨rfl, below_two HB.out b3⟩
  have t3 : (b == a) = true := by simp [h3]
  by_cases h4 : (xs.length : Int) = z
  rotate_left
  · rw [ft_size h4]
    rw [h1] at hi; rw [h2] at hf
    have t4 : ((xs.length : Int) == z) = false := by simp [h4]
    have HI := Lib.hid hi; have HF := Lib.hid hf; clear hi hf h1 h2 h3 h4
    go_enter Try.func47, Try.ntmps47
    go_wp2_with (first | (go_at_call 43; refine (HI.out _).mono ?_; rintro e w1 ⟨rfl, b1⟩; obtain ⟨hd, he⟩ := df_new b1; have d1 := hd.c1; have d2 := hd.c2; have d4 := hd.c4; have e0 := he.c0; have e1 := he.c1; have e2 := he.c2; have e3 := he.c3; have e4 := he.c4; have e5 := he.c5; have e6 := he.c6; have e7 := he.c7; clear hd he) | (go_at_call 52; refine (HF.out _ (HR.out.below b1)).mono ?_; rintro e w2 ⟨rfl, b2⟩; clear d1 d2 d4 e0 e1 e2 e3 e4 e5 e6 e7; have b3 := below_two b1 b2; obtain ⟨hd, he⟩ := df_new b3; have d1 := hd.c1; have d2 := hd.c2; have d4 := hd.c4; have e0 := he.c0; have e1 := he.c1; have e7 := he.c7; clear hd he))
    go_ret
    exact ⟨rfl, below_two HB.out b3⟩
  have t4 : ((xs.length : Int) == z) = true := by simp [h4]
  rw [ft_all h1 h2 h3 h4]
  rw [h1] at hi; rw [h2] at hf
  simp only
  have HI := Lib.hid hi; have HF := Lib.hid hf; clear hi hf h1 h2 h3 h4
  cases c with
  | true =>
    rw [Bool.true_or]
    go_enter Try.func47, Try.ntmps47
    go_wp2_with (first | (go_at_call 43; refine (HI.out _).mono ?_; rintro e w1 ⟨rfl, b1⟩; obtain ⟨hd, he⟩ := df_new b1; have d1 := hd.c1; have d2 := hd.c2; have d4 := hd.c4; have e0 := he.c0; have e1 := he.c1; have e2 := he.c2; have e3 := he.c3; have e4 := he.c4; have e5 := he.c5; have e6 := he.c6; have e7 := he.c7; clear hd he) | (go_at_call 52; refine (HF.out _ (HR.out.below b1)).mono ?_; rintro e w2 ⟨rfl, b2⟩; clear d1 d2 d4 e0 e1 e2 e3 e4 e5 e6 e7; have b3 := below_two b1 b2; obtain ⟨hd, he⟩ := df_new b3; have d1 := hd.c1; have d2 := hd.c2; have d4 := hd.c4; have e0 := he.c0; have e1 := he.c1; have e7 := he.c7; clear hd he))
    go_ret
    exact ⟨rfl, below_two HB.out b3⟩
  | false =>
    rw [Bool.false_or]
    by_cases h5 : q = 0
    · have t5 : (q == 0) = true := by simp [h5]
      rw [decide_eq_true h5]
      clear h5
      go_enter Try.func47, Try.ntmps47
      go_wp2_with (first | (go_at_call 43; refine (HI.out _).mono ?_; rintro e w1 ⟨rfl, b1⟩; obtain ⟨hd, he⟩ := df_new b1; have d1 := hd.c1; have d2 := hd.c2; have d4 := hd.c4; have e0 := he.c0; have e1 := he.c1; have e2 := he.c2; have e3 := he.c3; have e4 := he.c4; have e5 := he.c5; have e6 := he.c6; have e7 := he.c7; clear hd he) | (go_at_call 52; refine (HF.out _ (HR.out.below b1)).mono ?_; rintro e w2 ⟨rfl, b2⟩; clear d1 d2 d4 e0 e1 e2 e3 e4 e5 e6 e7; have b3 := below_two b1 b2; obtain ⟨hd, he⟩ := df_new b3; have d1 := hd.c1; have d2 := hd.c2; have d4 := hd.c4; have e0 := he.c0; have e1 := he.c1; have e7 := he.c7; clear hd he))
      go_ret
      exact ⟨rfl, below_two HB.out b3⟩
    · have t5 : (q == 0) = false := by simp [h5]
      rw [decide_eq_false h5]
      clear h5
      go_enter Try.func47, Try.ntmps47
      go_wp2_with (first | (go_at_call 43; refine (HI.out _).mono ?_; rintro e w1 ⟨rfl, b1⟩; obtain ⟨hd, he⟩ := df_new b1; have d1 := hd.c1; have d2 := hd.c2; have d4 := hd.c4; have e0 := he.c0; have e1 := he.c1; have e2 := he.c2; have e3 := he.c3; have e4 := he.c4; have e5 := he.c5; have e6 := he.c6; have e7 := he.c7; clear hd he) | (go_at_call 52; refine (HF.out _ (HR.out.below b1)).mono ?_; rintro e w2 ⟨rfl, b2⟩; clear d1 d2 d4 e0 e1 e2 e3 e4 e5 e6 e7; have b3 := below_two b1 b2; obtain ⟨hd, he⟩ := df_new b3; have d1 := hd.c1; have d2 := hd.c2; have d4 := hd.c4; have e0 := he.c0; have e1 := he.c1; have e7 := he.c7; clear hd he))
      go_ret
      exact ⟨rfl, below_two HB.out b3⟩
set_option maxRecDepth 100000 in
theorem sFits_any (n a z u : Int) (c : Bool) (b q t m r s k : Int) (ao : Option Addr) (cap : Nat) (xs : List Int) (w : World) (hr : Rd w ao xs.length xs) (hn : xs.length ≤ 1048576) : Calls Try.prog 51 #[.agg #[.int .i64 n, .int .i64 a, .int .i64 z, .int .i64 u, .bool c], .agg #[.int .i64 b, .int .i64 q, .int .i64 t, .int .i64 m, .int .i64 r, .int .i64 s, .int .i64 k, .slice ao xs.length cap]] w fun e w' => e = .returned (.bool (fits ⟨n, a, z, u, c⟩ ⟨b, q, t, m, r, s, k, xs⟩)) ∧ Below w.heap.size w w' := by
  have hB : Below w.heap.size w ((w.alloc (.cells #[.int .i64 n, .int .i64 a, .int .i64 z, .int .i64 u, .bool c] 49)).alloc (.cells #[.int .i64 b, .int .i64 q, .int .i64 t, .int .i64 m, .int .i64 r, .int .i64 s, .int .i64 k, .slice ao xs.length cap] 28)) := ((Below.refl _ _).alloc (Nat.le_refl _) _).alloc (by simp) _
  have HR := Lib.hid (hr.below hB)
  have hi := fun (W : World) => sIsDescriptor_any n a z u c W
  have hf := fun (W : World) (h : Rd W ao xs.length xs) => sIsFrame_any b q t m r s k ao cap xs W h hn
  have HB := Lib.hid hB; clear hr hB
  rcases h1 : isDesc ⟨n, a, z, u, c⟩ with _ | _
  · rw [ft_desc h1]
    rw [h1] at hi
    have HI := Lib.hid hi; clear hi hf h1
    go_enter Try.func51, Try.ntmps51
    go_wp2_with ((go_at_call 44; refine (HI.out _).mono ?_; rintro e w1 ⟨rfl, b1⟩; obtain ⟨hd, he⟩ := df_new b1; have d1 := hd.c1; have d2 := hd.c2; have d4 := hd.c4; have e0 := he.c0; have e1 := he.c1; have e2 := he.c2; have e3 := he.c3; have e4 := he.c4; have e5 := he.c5; have e6 := he.c6; have e7 := he.c7; clear hd he))
    go_ret
    exact ⟨rfl, below_two HB.out b1⟩
  rcases h2 : isFrame ⟨b, q, t, m, r, s, k, xs⟩ with _ | _
  · rw [ft_frame h2]
    rw [h1] at hi; rw [h2] at hf
    have HI := Lib.hid hi; have HF := Lib.hid hf; clear hi hf h1 h2
    go_enter Try.func51, Try.ntmps51
    go_wp2_with (first | (go_at_call 44; refine (HI.out _).mono ?_; rintro e w1 ⟨rfl, b1⟩; obtain ⟨hd, he⟩ := df_new b1; have d1 := hd.c1; have d2 := hd.c2; have d4 := hd.c4; have e0 := he.c0; have e1 := he.c1; have e2 := he.c2; have e3 := he.c3; have e4 := he.c4; have e5 := he.c5; have e6 := he.c6; have e7 := he.c7; clear hd he) | (go_at_call 109; refine (HF.out _ (HR.out.below b1)).mono ?_; rintro e w2 ⟨rfl, b2⟩; clear d1 d2 d4 e0 e1 e2 e3 e4 e5 e6 e7; have b3 := below_two b1 b2; obtain ⟨hd, he⟩ := df_new b3; have d1 := hd.c1; have d2 := hd.c2; have d4 := hd.c4; have e0 := he.c0; have e1 := he.c1; have e7 := he.c7; clear hd he))
    go_ret
    exact ⟨rfl, below_two HB.out b3⟩
  by_cases h3 : b = a
  rotate_left
  · rw [ft_kind h3]
    rw [h1] at hi; rw [h2] at hf
    have t3 : (b == a) = false := by simp [h3]
    have HI := Lib.hid hi; have HF := Lib.hid hf; clear hi hf h1 h2 h3
    go_enter Try.func51, Try.ntmps51
    go_wp2_with (first | (go_at_call 44; refine (HI.out _).mono ?_; rintro e w1 ⟨rfl, b1⟩; obtain ⟨hd, he⟩ := df_new b1; have d1 := hd.c1; have d2 := hd.c2; have d4 := hd.c4; have e0 := he.c0; have e1 := he.c1; have e2 := he.c2; have e3 := he.c3; have e4 := he.c4; have e5 := he.c5; have e6 := he.c6; have e7 := he.c7; clear hd he) | (go_at_call 109; refine (HF.out _ (HR.out.below b1)).mono ?_; rintro e w2 ⟨rfl, b2⟩; clear d1 d2 d4 e0 e1 e2 e3 e4 e5 e6 e7; have b3 := below_two b1 b2; obtain ⟨hd, he⟩ := df_new b3; have d1 := hd.c1; have d2 := hd.c2; have d4 := hd.c4; have e0 := he.c0; have e1 := he.c1; have e7 := he.c7; clear hd he))
    go_ret
    exact ⟨rfl, below_two HB.out b3⟩
  have t3 : (b == a) = true := by simp [h3]
  by_cases h4 : (xs.length : Int) = z
  rotate_left
  · rw [ft_size h4]
    rw [h1] at hi; rw [h2] at hf
    have t4 : ((xs.length : Int) == z) = false := by simp [h4]
    have HI := Lib.hid hi; have HF := Lib.hid hf; clear hi hf h1 h2 h3 h4
    go_enter Try.func51, Try.ntmps51
    go_wp2_with (first | (go_at_call 44; refine (HI.out _).mono ?_; rintro e w1 ⟨rfl, b1⟩; obtain ⟨hd, he⟩ := df_new b1; have d1 := hd.c1; have d2 := hd.c2; have d4 := hd.c4; have e0 := he.c0; have e1 := he.c1; have e2 := he.c2; have e3 := he.c3; have e4 := he.c4; have e5 := he.c5; have e6 := he.c6; have e7 := he.c7; clear hd he) | (go_at_call 109; refine (HF.out _ (HR.out.below b1)).mono ?_; rintro e w2 ⟨rfl, b2⟩; clear d1 d2 d4 e0 e1 e2 e3 e4 e5 e6 e7; have b3 := below_two b1 b2; obtain ⟨hd, he⟩ := df_new b3; have d1 := hd.c1; have d2 := hd.c2; have d4 := hd.c4; have e0 := he.c0; have e1 := he.c1; have e7 := he.c7; clear hd he))
    go_ret
    exact ⟨rfl, below_two HB.out b3⟩
  have t4 : ((xs.length : Int) == z) = true := by simp [h4]
  rw [ft_all h1 h2 h3 h4]
  rw [h1] at hi; rw [h2] at hf
  simp only
  have HI := Lib.hid hi; have HF := Lib.hid hf; clear hi hf h1 h2 h3 h4
  cases c with
  | true =>
    rw [Bool.true_or]
    go_enter Try.func51, Try.ntmps51
    go_wp2_with (first | (go_at_call 44; refine (HI.out _).mono ?_; rintro e w1 ⟨rfl, b1⟩; obtain ⟨hd, he⟩ := df_new b1; have d1 := hd.c1; have d2 := hd.c2; have d4 := hd.c4; have e0 := he.c0; have e1 := he.c1; have e2 := he.c2; have e3 := he.c3; have e4 := he.c4; have e5 := he.c5; have e6 := he.c6; have e7 := he.c7; clear hd he) | (go_at_call 109; refine (HF.out _ (HR.out.below b1)).mono ?_; rintro e w2 ⟨rfl, b2⟩; clear d1 d2 d4 e0 e1 e2 e3 e4 e5 e6 e7; have b3 := below_two b1 b2; obtain ⟨hd, he⟩ := df_new b3; have d1 := hd.c1; have d2 := hd.c2; have d4 := hd.c4; have e0 := he.c0; have e1 := he.c1; have e7 := he.c7; clear hd he))
    go_ret
    exact ⟨rfl, below_two HB.out b3⟩
  | false =>
    rw [Bool.false_or]
    by_cases h5 : q = 0
    · have t5 : (q == 0) = true := by simp [h5]
      rw [decide_eq_true h5]
      clear h5
      go_enter Try.func51, Try.ntmps51
      go_wp2_with (first | (go_at_call 44; refine (HI.out _).mono ?_; rintro e w1 ⟨rfl, b1⟩; obtain ⟨hd, he⟩ := df_new b1; have d1 := hd.c1; have d2 := hd.c2; have d4 := hd.c4; have e0 := he.c0; have e1 := he.c1; have e2 := he.c2; have e3 := he.c3; have e4 := he.c4; have e5 := he.c5; have e6 := he.c6; have e7 := he.c7; clear hd he) | (go_at_call 109; refine (HF.out _ (HR.out.below b1)).mono ?_; rintro e w2 ⟨rfl, b2⟩; clear d1 d2 d4 e0 e1 e2 e3 e4 e5 e6 e7; have b3 := below_two b1 b2; obtain ⟨hd, he⟩ := df_new b3; have d1 := hd.c1; have d2 := hd.c2; have d4 := hd.c4; have e0 := he.c0; have e1 := he.c1; have e7 := he.c7; clear hd he))
      go_ret
      exact ⟨rfl, below_two HB.out b3⟩
    · have t5 : (q == 0) = false := by simp [h5]
      rw [decide_eq_false h5]
      clear h5
      go_enter Try.func51, Try.ntmps51
      go_wp2_with (first | (go_at_call 44; refine (HI.out _).mono ?_; rintro e w1 ⟨rfl, b1⟩; obtain ⟨hd, he⟩ := df_new b1; have d1 := hd.c1; have d2 := hd.c2; have d4 := hd.c4; have e0 := he.c0; have e1 := he.c1; have e2 := he.c2; have e3 := he.c3; have e4 := he.c4; have e5 := he.c5; have e6 := he.c6; have e7 := he.c7; clear hd he) | (go_at_call 109; refine (HF.out _ (HR.out.below b1)).mono ?_; rintro e w2 ⟨rfl, b2⟩; clear d1 d2 d4 e0 e1 e2 e3 e4 e5 e6 e7; have b3 := below_two b1 b2; obtain ⟨hd, he⟩ := df_new b3; have d1 := hd.c1; have d2 := hd.c2; have d4 := hd.c4; have e0 := he.c0; have e1 := he.c1; have e7 := he.c7; clear hd he))
      go_ret
      exact ⟨rfl, below_two HB.out b3⟩
end

section
open Go.RowKit

theorem below_two'' {a w w' : World} {B : Nat} (h : Below B a w) (k : Below B w w') : Below B a w' := h.trans k
section
variable {P : Program} {T E : Nat} {Q : Exit → Act → World → Prop} {o : Oper} {a : Act}
/-- 'make([]int64, n)' in a region that draws its order. -/
theorem make_op {K : Act → World → Prop} (w : World) (l c : Operand) (hop : o.op = Op.makeSlice T l c) (ht : P.underlying T = some (.slice E)) (hi : Info64 P E)
    (kl kc : IntKind) (L C : Int) (n : Nat) (hl : a.eval l = .int kl L) (hc : a.eval c = .int kc C) (hL : L = (n : Int)) (hC : C = (n : Int)) (hm : n ≤ 4294967296)
    (hK : ∀ w', Own E w' w.heap.size (.slice (some ⟨w.heap.size, 0, none⟩) n n) (List.replicate n 0) → Below w.heap.size w w' → K (a.put o.dst (.slice (some ⟨w.heap.size, 0, none⟩) n n)) w') :
    Oper.wp P o a w K Q := by
  obtain ⟨i0, hi, hz0, hz1, hz2⟩ := info_parts hi
  subst hL
  subst hC
  have hrun := run_make (P := P) w T E i0 (.int .i64 0) ht hi hz0 kl kc (n : Int) (n : Int) (by omega) (by omega) (by rw [hz2]; omega) (by omega)
  simp only [Int.toNat_natCast] at hrun
  unfold Oper.wp
  simp [execOp, hop, hl, hc, hrun, Result.andThen]
  refine hK _ ?_ ((Below.refl _ _).alloc (Nat.le_refl _) _)
  refine ⟨by simp, .inr ⟨w.heap.size, n, _, ?_, Nat.le_refl _, heap_alloc_new w _, by simp, by unfold maxLen; omega, by rw [size_madeCells, hz1], ?_⟩⟩
  · simp
  · rw [hz1, show (Value.int .i64 0).cells = #[Value.int .i64 0] from rfl, toList_madeCells_one, List.length_replicate, Nat.mul_one, List.take_replicate, Nat.min_self, List.map_replicate]
end
/-- The blocks that EmptyFrame lays first. -/
structure EmpSt (w wi : World) (n a z u : Int) (c : Bool) (t m r s k : Int) : Prop where
  box : DescAt 49 wi w.heap.size n a z u c
  st : StateAt 25 wi (w.heap.size + 1) t m r s k
  res : FrameAt 28 wi (w.heap.size + 2) 0 0 0 0 0 0 0 (.slice none 0 0)
  below : Below w.heap.size w wi
section
variable {w wi wj : World} {n a z u : Int} {c : Bool} {t m r s k : Int}
theorem EmpSt.call (h : EmpSt w wi n a z u c t m r s k) (b : Below wi.heap.size wi wj) : EmpSt w wj n a z u c t m r s k :=
  ⟨h.box.below b h.box.lt, h.st.below b h.st.lt, h.res.below b h.res.lt, below_two h.below b⟩
theorem EmpSt.start (w : World) : EmpSt w (((w.alloc (.cells #[.int .i64 n, .int .i64 a, .int .i64 z, .int .i64 u, .bool c] 49)).alloc (.cells #[.int .i64 t, .int .i64 m, .int .i64 r, .int .i64 s, .int .i64 k] 25)).alloc (.cells #[.int .i64 0, .int .i64 0, .int .i64 0, .int .i64 0, .int .i64 0, .int .i64 0, .int .i64 0, .slice none 0 0] 28)) n a z u c t m r s k := by
  have e1 : (w.alloc (.cells #[.int .i64 n, .int .i64 a, .int .i64 z, .int .i64 u, .bool c] 49)).heap.size = w.heap.size + 1 := by simp
  have e2 : ((w.alloc (.cells #[.int .i64 n, .int .i64 a, .int .i64 z, .int .i64 u, .bool c] 49)).alloc (.cells #[.int .i64 t, .int .i64 m, .int .i64 r, .int .i64 s, .int .i64 k] 25)).heap.size = w.heap.size + 2 := by simp
  have h1 : DescAt 49 (w.alloc (.cells #[.int .i64 n, .int .i64 a, .int .i64 z, .int .i64 u, .bool c] 49)) w.heap.size n a z u c := DescAt.new w
  have b1 : Below (w.alloc (.cells #[.int .i64 n, .int .i64 a, .int .i64 z, .int .i64 u, .bool c] 49)).heap.size (w.alloc (.cells #[.int .i64 n, .int .i64 a, .int .i64 z, .int .i64 u, .bool c] 49)) ((w.alloc (.cells #[.int .i64 n, .int .i64 a, .int .i64 z, .int .i64 u, .bool c] 49)).alloc (.cells #[.int .i64 t, .int .i64 m, .int .i64 r, .int .i64 s, .int .i64 k] 25)) := (Below.refl _ _).alloc (Nat.le_refl _) _
  have h2 : StateAt 25 ((w.alloc (.cells #[.int .i64 n, .int .i64 a, .int .i64 z, .int .i64 u, .bool c] 49)).alloc (.cells #[.int .i64 t, .int .i64 m, .int .i64 r, .int .i64 s, .int .i64 k] 25)) (w.alloc (.cells #[.int .i64 n, .int .i64 a, .int .i64 z, .int .i64 u, .bool c] 49)).heap.size t m r s k := StateAt.new _
  rw [e1] at h2
  have h1' := h1.below b1 h1.lt
  have b2 : Below ((w.alloc (.cells #[.int .i64 n, .int .i64 a, .int .i64 z, .int .i64 u, .bool c] 49)).alloc (.cells #[.int .i64 t, .int .i64 m, .int .i64 r, .int .i64 s, .int .i64 k] 25)).heap.size ((w.alloc (.cells #[.int .i64 n, .int .i64 a, .int .i64 z, .int .i64 u, .bool c] 49)).alloc (.cells #[.int .i64 t, .int .i64 m, .int .i64 r, .int .i64 s, .int .i64 k] 25)) (((w.alloc (.cells #[.int .i64 n, .int .i64 a, .int .i64 z, .int .i64 u, .bool c] 49)).alloc (.cells #[.int .i64 t, .int .i64 m, .int .i64 r, .int .i64 s, .int .i64 k] 25)).alloc (.cells #[.int .i64 0, .int .i64 0, .int .i64 0, .int .i64 0, .int .i64 0, .int .i64 0, .int .i64 0, .slice none 0 0] 28)) := (Below.refl _ _).alloc (Nat.le_refl _) _
  have h3 : FrameAt 28 (((w.alloc (.cells #[.int .i64 n, .int .i64 a, .int .i64 z, .int .i64 u, .bool c] 49)).alloc (.cells #[.int .i64 t, .int .i64 m, .int .i64 r, .int .i64 s, .int .i64 k] 25)).alloc (.cells #[.int .i64 0, .int .i64 0, .int .i64 0, .int .i64 0, .int .i64 0, .int .i64 0, .int .i64 0, .slice none 0 0] 28)) ((w.alloc (.cells #[.int .i64 n, .int .i64 a, .int .i64 z, .int .i64 u, .bool c] 49)).alloc (.cells #[.int .i64 t, .int .i64 m, .int .i64 r, .int .i64 s, .int .i64 k] 25)).heap.size 0 0 0 0 0 0 0 (.slice none 0 0) := FrameAt.new _
  rw [e2] at h3
  exact ⟨h1'.below b2 h1'.lt, h2.below b2 h2.lt, h3, below_two (below_two ((Below.refl _ _).alloc (Nat.le_refl _) _) b1) b2⟩
theorem EmpSt.fin (h : EmpSt w wi n a z u c t m r s k) (a' q' t' m' r' s' k' : Int) (v' : Value) : FrameAt 28 (setEight wi (w.heap.size + 2) a' q' t' m' r' s' k' v') (w.heap.size + 2) a' q' t' m' r' s' k' v' ∧ Below w.heap.size w (setEight wi (w.heap.size + 2) a' q' t' m' r' s' k' v') :=
  ⟨h.res.eight a' q' t' m' r' s' k' v', h.below.trans (below_eight (by omega) _ _ _ _ _ _ _ _)⟩
end
/-- The frame lies in block J, its data a slice of the call's own. -/
structure EmpLd (w wi : World) (n a z u : Int) (c : Bool) (t m r s k : Int) (J : Nat) (x0 x1 x2 x3 x4 : Int) (p : Option Addr) (cap : Nat) (d : List Int) : Prop where
  base : EmpSt w wi n a z u c t m r s k
  var : FrameAt 28 wi J a 0 x0 x1 x2 x3 x4 (.slice p d.length cap)
  own : Own 2 wi (w.heap.size + 3) (.slice p d.length cap) d
  hj : w.heap.size + 2 < J
  hn : ∀ i, (Value.slice p d.length cap).ownBlock = some i → i ≠ J
section
variable {w wi wj : World} {n a z u : Int} {c : Bool} {t m r s k : Int} {J : Nat} {x0 x1 x2 x3 x4 : Int} {p : Option Addr} {cap : Nat} {d : List Int}
theorem EmpLd.call (h : EmpLd w wi n a z u c t m r s k J x0 x1 x2 x3 x4 p cap d) (b : Below wi.heap.size wi wj) : EmpLd w wj n a z u c t m r s k J x0 x1 x2 x3 x4 p cap d :=
  ⟨h.base.call b, h.var.below b h.var.lt, h.own.below b, h.hj, h.hn⟩
theorem own_notJ {E base J : Nat} {w w' : World} {v : Value} {xs : List Int} (h : Own E w base v xs) (hj : ∀ k, v.ownBlock = some k → k ≠ J) (g : w.grownBy w' (some J)) : Own E w' base v xs := by
  refine h.only g ?_
  cases hk : v.ownBlock with
  | none => exact .inl rfl
  | some i => exact .inr (fun e => hj i hk (by simpa using e))
theorem grown_fiveJ (w : World) (b o : Nat) (t m r s k : Int) : w.grownBy (setFiveAt w b o t m r s k) (some b) :=
  grown_trans (grown_trans (grown_trans (grown_trans (grown_setCell w b o _) (grown_setCell _ b (o + 1) _)) (grown_setCell _ b (o + 2) _)) (grown_setCell _ b (o + 3) _)) (grown_setCell _ b (o + 4) _)
theorem grown_eightJ (w : World) (b : Nat) (a q t m r s k : Int) (v : Value) : w.grownBy (setEight w b a q t m r s k v) (some b) :=
  grown_trans (grown_trans (grown_trans (grown_trans (grown_trans (grown_trans (grown_trans (grown_setCell w b 0 _) (grown_setCell _ b 1 _)) (grown_setCell _ b 2 _)) (grown_setCell _ b 3 _)) (grown_setCell _ b 4 _)) (grown_setCell _ b 5 _)) (grown_setCell _ b 6 _)) (grown_setCell _ b 7 _)
theorem EmpLd.five (h : EmpLd w wi n a z u c t m r s k J x0 x1 x2 x3 x4 p cap d) (y0 y1 y2 y3 y4 : Int) : EmpLd w (setFiveAt wi J 2 y0 y1 y2 y3 y4) n a z u c t m r s k J y0 y1 y2 y3 y4 p cap d :=
  have g := grown_fiveJ wi J 2 y0 y1 y2 y3 y4
  have hj := h.hj
  ⟨⟨h.base.box.grown g (by simp; omega), h.base.st.grown g (by simp; omega), h.base.res.grown g (by simp; omega), h.base.below.trans (below_fiveAt (by omega) _ _ _ _ _)⟩, h.var.fiveAt y0 y1 y2 y3 y4, own_notJ h.own h.hn g, h.hj, h.hn⟩
theorem EmpLd.fin (h : EmpLd w wi n a z u c t m r s k J x0 x1 x2 x3 x4 p cap d) : FrameAt 28 (setEight wi (w.heap.size + 2) a 0 x0 x1 x2 x3 x4 (.slice p d.length cap)) (w.heap.size + 2) a 0 x0 x1 x2 x3 x4 (.slice p d.length cap) ∧ Below w.heap.size w (setEight wi (w.heap.size + 2) a 0 x0 x1 x2 x3 x4 (.slice p d.length cap)) ∧ Own 2 (setEight wi (w.heap.size + 2) a 0 x0 x1 x2 x3 x4 (.slice p d.length cap)) w.heap.size (.slice p d.length cap) d := by
  obtain ⟨h1, h2⟩ := h.base.fin a 0 x0 x1 x2 x3 x4 (.slice p d.length cap)
  exact ⟨h1, h2, (h.own.awayEight (by omega) _ _ _ _ _ _ _ _).more (by omega)⟩
theorem EmpLd.store {y0 y1 y2 y3 y4 y5 y6 : Int} {v' : Value} (h : EmpSt w wi n a z u c t m r s k) (f : FrameAt 28 wi J y0 y1 y2 y3 y4 y5 y6 v') (o : Own 2 wi (w.heap.size + 3) (.slice p d.length cap) d) (hj : w.heap.size + 2 < J) (hn : ∀ i, (Value.slice p d.length cap).ownBlock = some i → i ≠ J) : EmpLd w (setEight wi J a 0 0 0 0 0 0 (.slice p d.length cap)) n a z u c t m r s k J 0 0 0 0 0 p cap d :=
  have g := grown_eightJ wi J a 0 0 0 0 0 0 (.slice p d.length cap)
  ⟨⟨h.box.grown g (by simp; omega), h.st.grown g (by simp; omega), h.res.grown g (by simp; omega), h.below.trans (below_eight (by omega) _ _ _ _ _ _ _ _)⟩, f.eight a 0 0 0 0 0 0 _, own_notJ o hn g, hj, hn⟩
end
theorem ef_1 {d : Ds} {t m r s k : Int} (h : isDesc d = false) : emptyFrame d t m r s k = (Fr.zero, 1) := by unfold emptyFrame; rw [if_neg (by simp [h])]
theorem ef_2 {d : Ds} {t m r s k : Int} (h : isDesc d = true) (h2 : isFrame (emptyOf d t m r s k) = false) : emptyFrame d t m r s k = (Fr.zero, 2) := by unfold emptyFrame; rw [if_pos h, if_neg (by simp [h2])]
theorem ef_0 {d : Ds} {t m r s k : Int} (h : isDesc d = true) (h2 : isFrame (emptyOf d t m r s k) = true) : emptyFrame d t m r s k = (emptyOf d t m r s k, 0) := by unfold emptyFrame; rw [if_pos h, if_pos h2]
set_option maxRecDepth 100000 in
theorem em1 (n a z u : Int) (c : Bool) (t m r s k : Int) (w : World) (hd : isDesc ⟨n, a, z, u, c⟩ = false) : Calls Try.prog 49 #[.agg #[.int .i64 n, .int .i64 a, .int .i64 z, .int .i64 u, .bool c], .agg #[.int .i64 t, .int .i64 m, .int .i64 r, .int .i64 s, .int .i64 k]] w (GivesFB w (emptyFrame ⟨n, a, z, u, c⟩ t m r s k).1 (.int .i64 (emptyFrame ⟨n, a, z, u, c⟩ t m r s k).2)) := by
  rw [ef_1 hd]
  have hi := fun (W : World) => isDescriptor_any n a z u c W
  rw [hd] at hi
  have S0 := Lib.hid (EmpSt.start (n := n) (a := a) (z := z) (u := u) (c := c) (t := t) (m := m) (r := r) (s := s) (k := k) w)
  have HI := Lib.hid hi; clear hi hd
  go_enter Try.func49, Try.ntmps49
  go_upto_region 1 with fail
  generalize (((w.alloc (.cells #[.int .i64 n, .int .i64 a, .int .i64 z, .int .i64 u, .bool c] 49)).alloc (.cells #[.int .i64 t, .int .i64 m, .int .i64 r, .int .i64 s, .int .i64 k] 25)).alloc (.cells #[.int .i64 0, .int .i64 0, .int .i64 0, .int .i64 0, .int .i64 0, .int .i64 0, .int .i64 0, .slice none 0 0] 28)) = w0 at S0 ⊢
  have e0 := S0.out.box.c0; have e1 := S0.out.box.c1; have e2 := S0.out.box.c2; have e3 := S0.out.box.c3; have e4 := S0.out.box.c4
  go_wp2_with (go_at_call 43; refine (HI.out _).mono ?_; rintro e w1 ⟨rfl, b1⟩; have S1 := Lib.hid (S0.out.call b1); clear b1; have f0 : w1.frozen? ⟨w.heap.size + 1 + 1, 0, none⟩ = false := S1.out.res.f 0; have f1 : w1.frozen? ⟨w.heap.size + 1 + 1, 1, none⟩ = false := S1.out.res.f 1; have f2 : w1.frozen? ⟨w.heap.size + 1 + 1, 2, none⟩ = false := S1.out.res.f 2; have f3 : w1.frozen? ⟨w.heap.size + 1 + 1, 3, none⟩ = false := S1.out.res.f 3; have f4 : w1.frozen? ⟨w.heap.size + 1 + 1, 4, none⟩ = false := S1.out.res.f 4; have f5 : w1.frozen? ⟨w.heap.size + 1 + 1, 5, none⟩ = false := S1.out.res.f 5; have f6 : w1.frozen? ⟨w.heap.size + 1 + 1, 6, none⟩ = false := S1.out.res.f 6; have f7 : w1.frozen? ⟨w.heap.size + 1 + 1, 7, none⟩ = false := S1.out.res.f 7; have q0 : w1.cell? ⟨w.heap.size + 1 + 1, 0, none⟩ = _ := S1.out.res.c0; have q1 : w1.cell? ⟨w.heap.size + 1 + 1, 1, none⟩ = _ := S1.out.res.c1; have q2 : w1.cell? ⟨w.heap.size + 1 + 1, 2, none⟩ = _ := S1.out.res.c2; have q3 : w1.cell? ⟨w.heap.size + 1 + 1, 3, none⟩ = _ := S1.out.res.c3; have q4 : w1.cell? ⟨w.heap.size + 1 + 1, 4, none⟩ = _ := S1.out.res.c4; have q5 : w1.cell? ⟨w.heap.size + 1 + 1, 5, none⟩ = _ := S1.out.res.c5; have q6 : w1.cell? ⟨w.heap.size + 1 + 1, 6, none⟩ = _ := S1.out.res.c6; have q7 : w1.cell? ⟨w.heap.size + 1 + 1, 7, none⟩ = _ := S1.out.res.c7)
  clear e0 e1 e2 e3 e4 q0 f0 q1 f1 q2 f2 q3 f3 q4 f4 q5 f5 q6 f6 q7 f7
  change bodyPost _ _ _ _ _ (setEight w1 (w.heap.size + 2) 0 0 0 0 0 0 0 (.slice none 0 0))
  obtain ⟨SF, BF⟩ := S1.out.fin 0 0 0 0 0 0 0 (.slice none 0 0)
  generalize setEight w1 (w.heap.size + 2) 0 0 0 0 0 0 0 (.slice none 0 0) = wz at SF BF ⊢
  have q0 : wz.cell? ⟨w.heap.size + 1 + 1, 0, none⟩ = _ := SF.c0; have q1 : wz.cell? ⟨w.heap.size + 1 + 1, 1, none⟩ = _ := SF.c1; have q2 : wz.cell? ⟨w.heap.size + 1 + 1, 2, none⟩ = _ := SF.c2; have q3 : wz.cell? ⟨w.heap.size + 1 + 1, 3, none⟩ = _ := SF.c3; have q4 : wz.cell? ⟨w.heap.size + 1 + 1, 4, none⟩ = _ := SF.c4; have q5 : wz.cell? ⟨w.heap.size + 1 + 1, 5, none⟩ = _ := SF.c5; have q6 : wz.cell? ⟨w.heap.size + 1 + 1, 6, none⟩ = _ := SF.c6; have q7 : wz.cell? ⟨w.heap.size + 1 + 1, 7, none⟩ = _ := SF.c7
  exact bodyPost_ret (v := .tuple #[.agg #[.int .i64 0, .int .i64 0, .int .i64 0, .int .i64 0, .int .i64 0, .int .i64 0, .int .i64 0, .slice none 0 0], .int .i64 1]) (by simp [results, Try.results49, go_sem, q0, q1, q2, q3, q4, q5, q6, q7]) rfl ⟨_, _, rfl, Own.nil_, BF⟩
set_option maxHeartbeats 4000000 in
set_option maxRecDepth 100000 in
set_option linter.unusedVariables false in
set_option linter.unusedSimpArgs false in
theorem em20 (n a u : Int) (c : Bool) (t m r s k : Int) (d : List Int) (w : World) (hz : d = List.replicate d.length 0) (hdl : d.length ≤ 32) (hk : kindOk a = true) (hs : hasState a = false) (hd : isDesc ⟨n, a, (d.length : Int), u, c⟩ = true) (v : Bool) (hv : isFrame ⟨a, 0, 0, 0, 0, 0, 0, d⟩ = v) (G : Fr) (cc : Int) (hg0 : v = false → G = Fr.zero ∧ cc = 2) (hg1 : v = true → G = ⟨a, 0, 0, 0, 0, 0, 0, d⟩ ∧ cc = 0) : Calls Try.prog 49 #[.agg #[.int .i64 n, .int .i64 a, .int .i64 d.length, .int .i64 u, .bool c], .agg #[.int .i64 t, .int .i64 m, .int .i64 r, .int .i64 s, .int .i64 k]] w (GivesFB w G (.int .i64 cc)) := by
  have hi := fun (W : World) => isDescriptor_any n a (d.length : Int) u c W
  rw [hd] at hi
  have S0 := Lib.hid (EmpSt.start (n := n) (a := a) (z := (d.length : Int)) (u := u) (c := c) (t := t) (m := m) (r := r) (s := s) (k := k) w)
  have hdl2 : d.length ≤ 1048576 := by omega
  have HI := Lib.hid hi; have HZ := Lib.hid hz; have HDL := Lib.hid hdl; have HS := Lib.hid hs; have HV := Lib.hid hv; have HK := Lib.hid hk; have HDM := Lib.hid hdl2; have HG0 := Lib.hid hg0; have HG1 := Lib.hid hg1; clear hi hd hz hdl hs hv hk hdl2 hg0 hg1
  go_enter Try.func49, Try.ntmps49
  go_upto_region 1 with fail
  generalize (((w.alloc (.cells #[.int .i64 n, .int .i64 a, .int .i64 d.length, .int .i64 u, .bool c] 49)).alloc (.cells #[.int .i64 t, .int .i64 m, .int .i64 r, .int .i64 s, .int .i64 k] 25)).alloc (.cells #[.int .i64 0, .int .i64 0, .int .i64 0, .int .i64 0, .int .i64 0, .int .i64 0, .int .i64 0, .slice none 0 0] 28)) = w0 at S0 ⊢
  have e0 := S0.out.box.c0; have e1 := S0.out.box.c1; have e2 := S0.out.box.c2; have e3 := S0.out.box.c3; have e4 := S0.out.box.c4
  go_upto_region 3 with (go_at_call 43; refine (HI.out _).mono ?_; rintro e w1 ⟨rfl, b1⟩; have S1 := Lib.hid (S0.out.call b1); clear b1)
  clear e0 e1 e2 e3 e4 S0
  go_cut [6] (fun s6 wx => ∃ wy, wy = wx ∧ ∃ J p c', s6 = .pointer (some ⟨J, 0, none⟩) ∧ Hid (EmpLd w wy n a (d.length : Int) u c t m r s k J 0 0 0 0 0 p c' d))
  case first =>
    have S2 : Hid (EmpSt w w1.drew n a (d.length : Int) u c t m r s k) := Lib.hid (S1.out.call (Below.drew (Below.refl _ _)))
    refine wp_region_held_drew (S := fun w' => w'.cell? ⟨w.heap.size, 1, none⟩ = some (.int .i64 a) ∧ w'.cell? ⟨w.heap.size, 2, none⟩ = some (.int .i64 d.length)) (by kernel_rfl) (⟨S2.out.box.c1, S2.out.box.c2⟩) (fun hHeld => ?_)
    generalize w1.drew = w2 at S2 hHeld ⊢
    clear S1
    refine wpAnyH_take (i := 0) (v := ?_) rfl (by kernel_rfl) (by kernel_rfl) (by kernel_rfl) (fun _ _ _ h => h) (Or.inl ⟨by rfl, ?_⟩) (by assumption) ?_
    rotate_left
    · (intro w hSw; (try dsimp only at hSw); go_simp; (try with_reducible rfl))
    try simp only [List.getElem_toArray, List.getElem_cons_succ, List.getElem_cons_zero, Act.put, List.setIfInBounds_toArray, List.set_cons_zero, List.set_cons_succ]
    refine wpAnyH_take (i := 1) (v := ?_) rfl (by kernel_rfl) (by kernel_rfl) (by kernel_rfl) (fun _ _ _ h => h) (Or.inl ⟨by rfl, ?_⟩) (by assumption) ?_
    rotate_left
    · (intro w hSw; (try dsimp only at hSw); go_simp; (try with_reducible rfl))
    try simp only [List.getElem_toArray, List.getElem_cons_succ, List.getElem_cons_zero, Act.put, List.setIfInBounds_toArray, List.set_cons_zero, List.set_cons_succ]
    refine wpAnyH_take (i := 2) (v := ?_) rfl (by kernel_rfl) (by kernel_rfl) (by kernel_rfl) (fun _ _ _ h => h) (Or.inl ⟨by rfl, ?_⟩) (by assumption) ?_
    rotate_left
    · (intro w hSw; (try dsimp only at hSw); go_simp; (try with_reducible rfl))
    try simp only [List.getElem_toArray, List.getElem_cons_succ, List.getElem_cons_zero, Act.put, List.setIfInBounds_toArray, List.set_cons_zero, List.set_cons_succ]
    refine wpAnyH_take (i := 3) (v := ?_) rfl (by kernel_rfl) (by kernel_rfl) (by kernel_rfl) (fun _ _ _ h => h) (Or.inl ⟨by rfl, ?_⟩) (by assumption) ?_
    rotate_left
    · (intro w hSw; (try dsimp only at hSw); go_simp; (try with_reducible rfl))
    try simp only [List.getElem_toArray, List.getElem_cons_succ, List.getElem_cons_zero, Act.put, List.setIfInBounds_toArray, List.set_cons_zero, List.set_cons_succ]
    refine wpAnyH_ready (rs := [4, 6]) (by kernel_rfl) (by simp) (AllReadyH.cons rfl (fun K hK => ?_) (AllReadyH.cons rfl (fun K hK => ?_) AllReadyH.nil))
    · refine make_op _ (.tmp 16) (.tmp 16) rfl Try.underlying26 info64 _ _ _ _ d.length rfl rfl rfl rfl (by have := HDL.out; omega) ?_
      intro w3 o' b'
      rw [← HZ.out] at o'
      have S3 := Lib.hid (S2.out.call b')
      have lo := S2.out.res.lt
      replace o' := o'.more (base' := w.heap.size + 3) lo
      obtain ⟨G, hG⟩ : ∃ G, G = w2.heap.size := ⟨_, rfl⟩
      rw [← hG] at o' ⊢
      clear hG b' lo
      refine hK.out _ _ ?_ (fun hHeld => ?_)
      · exact ⟨S3.out.box.c1, S3.out.box.c2⟩
      clear hK K
      try simp only [List.getElem_toArray, List.getElem_cons_succ, List.getElem_cons_zero, Act.put, List.setIfInBounds_toArray, List.set_cons_zero, List.set_cons_succ]
      refine wpAnyH_take (i := 5) (v := ?_) rfl (by kernel_rfl) (by kernel_rfl) (by kernel_rfl) (fun _ _ _ h => h) (Or.inl ⟨by rfl, ?_⟩) (by assumption) ?_
      rotate_left
      · (intro w hSw; (try dsimp only at hSw); go_simp; (try with_reducible rfl))
      try simp only [List.getElem_toArray, List.getElem_cons_succ, List.getElem_cons_zero, Act.put, List.setIfInBounds_toArray, List.set_cons_zero, List.set_cons_succ]
      refine wpAnyH_ready (rs := [6]) (by kernel_rfl) (by simp) (AllReadyH.cons rfl (fun K hK => ?_) AllReadyH.nil)
      go_simp
      have ZJ := FrameAt.new (T := 28) (a := 0) (q := 0) (t := 0) (m := 0) (r := 0) (s := 0) (k := 0) (v := .slice none 0 0) w3
      have bal := Below.alloc (Below.refl w3.heap.size w3) (Nat.le_refl _) (.cells #[.int .i64 0, .int .i64 0, .int .i64 0, .int .i64 0, .int .i64 0, .int .i64 0, .int .i64 0, .slice none 0 0] 28)
      have S4 := Lib.hid (S3.out.call bal)
      have hj' : w.heap.size + 2 < w3.heap.size := S3.out.res.lt
      have hn' : ∀ i, (Value.slice (some ⟨G, 0, none⟩) d.length d.length).ownBlock = some i → i ≠ w3.heap.size := fun i hi => by have h1 := (o'.block i hi).2; omega
      replace o' := o'.below bal
      obtain ⟨J, hJ⟩ : ∃ J, J = w3.heap.size := ⟨_, rfl⟩
      rw [← hJ] at ZJ hj' hn' ⊢
      clear hJ bal
      generalize w3.alloc (.cells #[.int .i64 0, .int .i64 0, .int .i64 0, .int .i64 0, .int .i64 0, .int .i64 0, .int .i64 0, .slice none 0 0] 28) = w4 at ZJ S4 o' ⊢
      refine hK.out _ _ ?_ (fun hHeld => ?_)
      · exact ⟨S4.out.box.c1, S4.out.box.c2⟩
      clear hK K
      try simp only [List.getElem_toArray, List.getElem_cons_succ, List.getElem_cons_zero, Act.put, List.setIfInBounds_toArray, List.set_cons_zero, List.set_cons_succ]
      have rc0 := ZJ.c0
      have rc1 := ZJ.c1
      have rc2 := ZJ.c2
      have rc3 := ZJ.c3
      have rc4 := ZJ.c4
      have rc5 := ZJ.c5
      have rc6 := ZJ.c6
      have rc7 := ZJ.c7
      have rf0 := ZJ.f 0
      have rf1 := ZJ.f 1
      have rf2 := ZJ.f 2
      have rf3 := ZJ.f 3
      have rf4 := ZJ.f 4
      have rf5 := ZJ.f 5
      have rf6 := ZJ.f 6
      have rf7 := ZJ.f 7
      refine wpAnyH_ready (rs := [7]) (by kernel_rfl) (by simp) (AllReadyH.cons rfl (fun K hK => ?_) AllReadyH.nil)
      go_simp
      clear rc0 rf0 rc1 rf1 rc2 rf2 rc3 rf3 rc4 rf4 rc5 rf5 rc6 rf6 rc7 rf7
      change K _ (setEight w4 J a 0 0 0 0 0 0 (.slice (some ⟨G, 0, none⟩) d.length d.length))
      have LF := EmpLd.store S4.out ZJ o' hj' hn'
      generalize setEight w4 J a 0 0 0 0 0 0 (.slice (some ⟨G, 0, none⟩) d.length d.length) = w5 at LF ⊢
      refine hK.out _ _ ?_ (fun hHeld => ?_)
      · exact ⟨LF.base.box.c1, LF.base.box.c2⟩
      clear hK K
      try simp only [List.getElem_toArray, List.getElem_cons_succ, List.getElem_cons_zero, Act.put, List.setIfInBounds_toArray, List.set_cons_zero, List.set_cons_succ]
      refine wpAnyH_done (by kernel_rfl) ?_ _
      go_wp2_with fail
      go_meet
      exact ⟨_, rfl, J, _, _, rfl, Lib.hid LF⟩
    · go_simp
      have ZJ := FrameAt.new (T := 28) (a := 0) (q := 0) (t := 0) (m := 0) (r := 0) (s := 0) (k := 0) (v := .slice none 0 0) w2
      have bal := Below.alloc (Below.refl w2.heap.size w2) (Nat.le_refl _) (.cells #[.int .i64 0, .int .i64 0, .int .i64 0, .int .i64 0, .int .i64 0, .int .i64 0, .int .i64 0, .slice none 0 0] 28)
      have S3 := Lib.hid (S2.out.call bal)
      have hj' : w.heap.size + 2 < w2.heap.size := S2.out.res.lt
      obtain ⟨J, hJ⟩ : ∃ J, J = w2.heap.size := ⟨_, rfl⟩
      rw [← hJ] at ZJ hj' ⊢
      clear hJ bal
      generalize w2.alloc (.cells #[.int .i64 0, .int .i64 0, .int .i64 0, .int .i64 0, .int .i64 0, .int .i64 0, .int .i64 0, .slice none 0 0] 28) = w3 at ZJ S3 ⊢
      refine hK.out _ _ ?_ (fun hHeld => ?_)
      · exact ⟨S3.out.box.c1, S3.out.box.c2⟩
      clear hK K
      try simp only [List.getElem_toArray, List.getElem_cons_succ, List.getElem_cons_zero, Act.put, List.setIfInBounds_toArray, List.set_cons_zero, List.set_cons_succ]
      refine wpAnyH_ready (rs := [4]) (by kernel_rfl) (by simp) (AllReadyH.cons rfl (fun K hK => ?_) AllReadyH.nil)
      refine make_op _ (.tmp 16) (.tmp 16) rfl Try.underlying26 info64 _ _ _ _ d.length rfl rfl rfl rfl (by have := HDL.out; omega) ?_
      intro w4 o' b'
      rw [← HZ.out] at o'
      have S4 := Lib.hid (S3.out.call b')
      have lo := S3.out.res.lt
      have hn' : ∀ i, (Value.slice (some ⟨w3.heap.size, 0, none⟩) d.length d.length).ownBlock = some i → i ≠ J := fun i hi => by have h1 := (o'.block i hi).1; have h2 := ZJ.lt; omega
      replace ZJ := ZJ.below b' ZJ.lt
      replace o' := o'.more (base' := w.heap.size + 3) lo
      obtain ⟨G, hG⟩ : ∃ G, G = w3.heap.size := ⟨_, rfl⟩
      rw [← hG] at o' hn' ⊢
      clear hG b' lo
      refine hK.out _ _ ?_ (fun hHeld => ?_)
      · exact ⟨S4.out.box.c1, S4.out.box.c2⟩
      clear hK K
      try simp only [List.getElem_toArray, List.getElem_cons_succ, List.getElem_cons_zero, Act.put, List.setIfInBounds_toArray, List.set_cons_zero, List.set_cons_succ]
      refine wpAnyH_take (i := 5) (v := ?_) rfl (by kernel_rfl) (by kernel_rfl) (by kernel_rfl) (fun _ _ _ h => h) (Or.inl ⟨by rfl, ?_⟩) (by assumption) ?_
      rotate_left
      · (intro w hSw; (try dsimp only at hSw); go_simp; (try with_reducible rfl))
      try simp only [List.getElem_toArray, List.getElem_cons_succ, List.getElem_cons_zero, Act.put, List.setIfInBounds_toArray, List.set_cons_zero, List.set_cons_succ]
      have rc0 := ZJ.c0
      have rc1 := ZJ.c1
      have rc2 := ZJ.c2
      have rc3 := ZJ.c3
      have rc4 := ZJ.c4
      have rc5 := ZJ.c5
      have rc6 := ZJ.c6
      have rc7 := ZJ.c7
      have rf0 := ZJ.f 0
      have rf1 := ZJ.f 1
      have rf2 := ZJ.f 2
      have rf3 := ZJ.f 3
      have rf4 := ZJ.f 4
      have rf5 := ZJ.f 5
      have rf6 := ZJ.f 6
      have rf7 := ZJ.f 7
      refine wpAnyH_ready (rs := [7]) (by kernel_rfl) (by simp) (AllReadyH.cons rfl (fun K hK => ?_) AllReadyH.nil)
      go_simp
      clear rc0 rf0 rc1 rf1 rc2 rf2 rc3 rf3 rc4 rf4 rc5 rf5 rc6 rf6 rc7 rf7
      change K _ (setEight w4 J a 0 0 0 0 0 0 (.slice (some ⟨G, 0, none⟩) d.length d.length))
      have LF := EmpLd.store S4.out ZJ o' hj' hn'
      generalize setEight w4 J a 0 0 0 0 0 0 (.slice (some ⟨G, 0, none⟩) d.length d.length) = w5 at LF ⊢
      refine hK.out _ _ ?_ (fun hHeld => ?_)
      · exact ⟨LF.base.box.c1, LF.base.box.c2⟩
      clear hK K
      try simp only [List.getElem_toArray, List.getElem_cons_succ, List.getElem_cons_zero, Act.put, List.setIfInBounds_toArray, List.set_cons_zero, List.set_cons_succ]
      refine wpAnyH_done (by kernel_rfl) ?_ _
      go_wp2_with fail
      go_meet
      exact ⟨_, rfl, J, _, _, rfl, Lib.hid LF⟩
  case rest =>
    obtain ⟨wx, rfl, J, p, c', rfl, LD⟩ := hcut
    have d1 := LD.out.base.box.c1
    go_wp2_with fail
    clear d1
    refine (hasStateAndData_any _ _).mono ?_
    rintro e w5 ⟨rfl, rfl⟩
    rw [HS.out]
    go_upto_region 7 with fail
    have v0 := LD.out.var.c0
    have v1 := LD.out.var.c1
    have v2 := LD.out.var.c2
    have v3 := LD.out.var.c3
    have v4 := LD.out.var.c4
    have v5 := LD.out.var.c5
    have v6 := LD.out.var.c6
    have v7 := LD.out.var.c7
    obtain ⟨_, _, ee, -, rr⟩ := LD.out.own.get
    cases ee
    have hf := fun (W : World) (h : Rd W p d.length d) => isFrame_any a 0 0 0 0 0 0 p c' d W h HDM.out
    rw [HV.out] at hf
    cases v with
    | false =>
      have HF := Lib.hid hf; clear hf
      obtain ⟨rfl, rfl⟩ := HG0.out rfl
      clear HV HG0 HG1
      go_wp2_with (go_at_call 52; refine (HF.out _ rr).mono ?_; rintro e w7 ⟨rfl, b7⟩; have L7 := Lib.hid (LD.out.call b7); clear b7 v0 v1 v2 v3 v4 v5 v6 v7; have f0 : w7.frozen? ⟨w.heap.size + 1 + 1, 0, none⟩ = false := L7.out.base.res.f 0; have f1 : w7.frozen? ⟨w.heap.size + 1 + 1, 1, none⟩ = false := L7.out.base.res.f 1; have f2 : w7.frozen? ⟨w.heap.size + 1 + 1, 2, none⟩ = false := L7.out.base.res.f 2; have f3 : w7.frozen? ⟨w.heap.size + 1 + 1, 3, none⟩ = false := L7.out.base.res.f 3; have f4 : w7.frozen? ⟨w.heap.size + 1 + 1, 4, none⟩ = false := L7.out.base.res.f 4; have f5 : w7.frozen? ⟨w.heap.size + 1 + 1, 5, none⟩ = false := L7.out.base.res.f 5; have f6 : w7.frozen? ⟨w.heap.size + 1 + 1, 6, none⟩ = false := L7.out.base.res.f 6; have f7 : w7.frozen? ⟨w.heap.size + 1 + 1, 7, none⟩ = false := L7.out.base.res.f 7; have q0 : w7.cell? ⟨w.heap.size + 1 + 1, 0, none⟩ = _ := L7.out.base.res.c0; have q1 : w7.cell? ⟨w.heap.size + 1 + 1, 1, none⟩ = _ := L7.out.base.res.c1; have q2 : w7.cell? ⟨w.heap.size + 1 + 1, 2, none⟩ = _ := L7.out.base.res.c2; have q3 : w7.cell? ⟨w.heap.size + 1 + 1, 3, none⟩ = _ := L7.out.base.res.c3; have q4 : w7.cell? ⟨w.heap.size + 1 + 1, 4, none⟩ = _ := L7.out.base.res.c4; have q5 : w7.cell? ⟨w.heap.size + 1 + 1, 5, none⟩ = _ := L7.out.base.res.c5; have q6 : w7.cell? ⟨w.heap.size + 1 + 1, 6, none⟩ = _ := L7.out.base.res.c6; have q7 : w7.cell? ⟨w.heap.size + 1 + 1, 7, none⟩ = _ := L7.out.base.res.c7)
      clear q0 f0 q1 f1 q2 f2 q3 f3 q4 f4 q5 f5 q6 f6 q7 f7
      change bodyPost _ _ _ _ _ (setEight w7 (w.heap.size + 2) 0 0 0 0 0 0 0 (.slice none 0 0))
      obtain ⟨SF, BF⟩ := L7.out.base.fin 0 0 0 0 0 0 0 (.slice none 0 0)
      generalize setEight w7 (w.heap.size + 2) 0 0 0 0 0 0 0 (.slice none 0 0) = wz at SF BF ⊢
      have q0 : wz.cell? ⟨w.heap.size + 1 + 1, 0, none⟩ = _ := SF.c0
      have q1 : wz.cell? ⟨w.heap.size + 1 + 1, 1, none⟩ = _ := SF.c1
      have q2 : wz.cell? ⟨w.heap.size + 1 + 1, 2, none⟩ = _ := SF.c2
      have q3 : wz.cell? ⟨w.heap.size + 1 + 1, 3, none⟩ = _ := SF.c3
      have q4 : wz.cell? ⟨w.heap.size + 1 + 1, 4, none⟩ = _ := SF.c4
      have q5 : wz.cell? ⟨w.heap.size + 1 + 1, 5, none⟩ = _ := SF.c5
      have q6 : wz.cell? ⟨w.heap.size + 1 + 1, 6, none⟩ = _ := SF.c6
      have q7 : wz.cell? ⟨w.heap.size + 1 + 1, 7, none⟩ = _ := SF.c7
      exact bodyPost_ret (v := .tuple #[.agg #[.int .i64 0, .int .i64 0, .int .i64 0, .int .i64 0, .int .i64 0, .int .i64 0, .int .i64 0, .slice none 0 0], .int .i64 2]) (by simp [results, Try.results49, go_sem, q0, q1, q2, q3, q4, q5, q6, q7]) rfl ⟨_, _, rfl, Own.nil_, BF⟩
    | true =>
      have HF := Lib.hid hf; clear hf
      obtain ⟨rfl, rfl⟩ := HG1.out rfl
      clear HV HG0 HG1
      go_wp2_with (go_at_call 52; refine (HF.out _ rr).mono ?_; rintro e w7 ⟨rfl, b7⟩; have L7 := Lib.hid (LD.out.call b7); clear b7 v0 v1 v2 v3 v4 v5 v6 v7; have f0 : w7.frozen? ⟨w.heap.size + 1 + 1, 0, none⟩ = false := L7.out.base.res.f 0; have f1 : w7.frozen? ⟨w.heap.size + 1 + 1, 1, none⟩ = false := L7.out.base.res.f 1; have f2 : w7.frozen? ⟨w.heap.size + 1 + 1, 2, none⟩ = false := L7.out.base.res.f 2; have f3 : w7.frozen? ⟨w.heap.size + 1 + 1, 3, none⟩ = false := L7.out.base.res.f 3; have f4 : w7.frozen? ⟨w.heap.size + 1 + 1, 4, none⟩ = false := L7.out.base.res.f 4; have f5 : w7.frozen? ⟨w.heap.size + 1 + 1, 5, none⟩ = false := L7.out.base.res.f 5; have f6 : w7.frozen? ⟨w.heap.size + 1 + 1, 6, none⟩ = false := L7.out.base.res.f 6; have f7 : w7.frozen? ⟨w.heap.size + 1 + 1, 7, none⟩ = false := L7.out.base.res.f 7; have q0 : w7.cell? ⟨w.heap.size + 1 + 1, 0, none⟩ = _ := L7.out.base.res.c0; have q1 : w7.cell? ⟨w.heap.size + 1 + 1, 1, none⟩ = _ := L7.out.base.res.c1; have q2 : w7.cell? ⟨w.heap.size + 1 + 1, 2, none⟩ = _ := L7.out.base.res.c2; have q3 : w7.cell? ⟨w.heap.size + 1 + 1, 3, none⟩ = _ := L7.out.base.res.c3; have q4 : w7.cell? ⟨w.heap.size + 1 + 1, 4, none⟩ = _ := L7.out.base.res.c4; have q5 : w7.cell? ⟨w.heap.size + 1 + 1, 5, none⟩ = _ := L7.out.base.res.c5; have q6 : w7.cell? ⟨w.heap.size + 1 + 1, 6, none⟩ = _ := L7.out.base.res.c6; have q7 : w7.cell? ⟨w.heap.size + 1 + 1, 7, none⟩ = _ := L7.out.base.res.c7; have v0 := L7.out.var.c0; have v1 := L7.out.var.c1; have v2 := L7.out.var.c2; have v3 := L7.out.var.c3; have v4 := L7.out.var.c4; have v5 := L7.out.var.c5; have v6 := L7.out.var.c6; have v7 := L7.out.var.c7)
      clear q0 f0 q1 f1 q2 f2 q3 f3 q4 f4 q5 f5 q6 f6 q7 f7 v0 v1 v2 v3 v4 v5 v6 v7
      change bodyPost _ _ _ _ _ (setEight w7 (w.heap.size + 2) a 0 0 0 0 0 0 (.slice p d.length c'))
      obtain ⟨SF, BF, OF⟩ := L7.out.fin
      generalize setEight w7 (w.heap.size + 2) a 0 0 0 0 0 0 (.slice p d.length c') = wz at SF BF OF ⊢
      have q0 : wz.cell? ⟨w.heap.size + 1 + 1, 0, none⟩ = _ := SF.c0
      have q1 : wz.cell? ⟨w.heap.size + 1 + 1, 1, none⟩ = _ := SF.c1
      have q2 : wz.cell? ⟨w.heap.size + 1 + 1, 2, none⟩ = _ := SF.c2
      have q3 : wz.cell? ⟨w.heap.size + 1 + 1, 3, none⟩ = _ := SF.c3
      have q4 : wz.cell? ⟨w.heap.size + 1 + 1, 4, none⟩ = _ := SF.c4
      have q5 : wz.cell? ⟨w.heap.size + 1 + 1, 5, none⟩ = _ := SF.c5
      have q6 : wz.cell? ⟨w.heap.size + 1 + 1, 6, none⟩ = _ := SF.c6
      have q7 : wz.cell? ⟨w.heap.size + 1 + 1, 7, none⟩ = _ := SF.c7
      exact bodyPost_ret (v := .tuple #[.agg #[.int .i64 a, .int .i64 0, .int .i64 0, .int .i64 0, .int .i64 0, .int .i64 0, .int .i64 0, .slice p d.length c'], .int .i64 0]) (by simp [results, Try.results49, go_sem, q0, q1, q2, q3, q4, q5, q6, q7]) rfl ⟨_, _, rfl, OF, BF⟩
set_option maxHeartbeats 4000000 in
set_option maxRecDepth 100000 in
set_option linter.unusedVariables false in
set_option linter.unusedSimpArgs false in
theorem em21 (n a u : Int) (c : Bool) (t m r s k : Int) (d : List Int) (w : World) (hz : d = List.replicate d.length 0) (hdl : d.length ≤ 32) (hk : kindOk a = true) (hs : hasState a = true) (hd : isDesc ⟨n, a, (d.length : Int), u, c⟩ = true) (v : Bool) (hv : isFrame ⟨a, 0, t, m, r, s, k, d⟩ = v) (G : Fr) (cc : Int) (hg0 : v = false → G = Fr.zero ∧ cc = 2) (hg1 : v = true → G = ⟨a, 0, t, m, r, s, k, d⟩ ∧ cc = 0) : Calls Try.prog 49 #[.agg #[.int .i64 n, .int .i64 a, .int .i64 d.length, .int .i64 u, .bool c], .agg #[.int .i64 t, .int .i64 m, .int .i64 r, .int .i64 s, .int .i64 k]] w (GivesFB w G (.int .i64 cc)) := by
  have hi := fun (W : World) => isDescriptor_any n a (d.length : Int) u c W
  rw [hd] at hi
  have S0 := Lib.hid (EmpSt.start (n := n) (a := a) (z := (d.length : Int)) (u := u) (c := c) (t := t) (m := m) (r := r) (s := s) (k := k) w)
  have hdl2 : d.length ≤ 1048576 := by omega
  have HI := Lib.hid hi; have HZ := Lib.hid hz; have HDL := Lib.hid hdl; have HS := Lib.hid hs; have HV := Lib.hid hv; have HK := Lib.hid hk; have HDM := Lib.hid hdl2; have HG0 := Lib.hid hg0; have HG1 := Lib.hid hg1; clear hi hd hz hdl hs hv hk hdl2 hg0 hg1
  go_enter Try.func49, Try.ntmps49
  go_upto_region 1 with fail
  generalize (((w.alloc (.cells #[.int .i64 n, .int .i64 a, .int .i64 d.length, .int .i64 u, .bool c] 49)).alloc (.cells #[.int .i64 t, .int .i64 m, .int .i64 r, .int .i64 s, .int .i64 k] 25)).alloc (.cells #[.int .i64 0, .int .i64 0, .int .i64 0, .int .i64 0, .int .i64 0, .int .i64 0, .int .i64 0, .slice none 0 0] 28)) = w0 at S0 ⊢
  have e0 := S0.out.box.c0; have e1 := S0.out.box.c1; have e2 := S0.out.box.c2; have e3 := S0.out.box.c3; have e4 := S0.out.box.c4
  go_upto_region 3 with (go_at_call 43; refine (HI.out _).mono ?_; rintro e w1 ⟨rfl, b1⟩; have S1 := Lib.hid (S0.out.call b1); clear b1)
  clear e0 e1 e2 e3 e4 S0
  go_cut [6] (fun s6 wx => ∃ wy, wy = wx ∧ ∃ J p c', s6 = .pointer (some ⟨J, 0, none⟩) ∧ Hid (EmpLd w wy n a (d.length : Int) u c t m r s k J 0 0 0 0 0 p c' d))
  case first =>
    have S2 : Hid (EmpSt w w1.drew n a (d.length : Int) u c t m r s k) := Lib.hid (S1.out.call (Below.drew (Below.refl _ _)))
    refine wp_region_held_drew (S := fun w' => w'.cell? ⟨w.heap.size, 1, none⟩ = some (.int .i64 a) ∧ w'.cell? ⟨w.heap.size, 2, none⟩ = some (.int .i64 d.length)) (by kernel_rfl) (⟨S2.out.box.c1, S2.out.box.c2⟩) (fun hHeld => ?_)
    generalize w1.drew = w2 at S2 hHeld ⊢
    clear S1
    refine wpAnyH_take (i := 0) (v := ?_) rfl (by kernel_rfl) (by kernel_rfl) (by kernel_rfl) (fun _ _ _ h => h) (Or.inl ⟨by rfl, ?_⟩) (by assumption) ?_
    rotate_left
    · (intro w hSw; (try dsimp only at hSw); go_simp; (try with_reducible rfl))
    try simp only [List.getElem_toArray, List.getElem_cons_succ, List.getElem_cons_zero, Act.put, List.setIfInBounds_toArray, List.set_cons_zero, List.set_cons_succ]
    refine wpAnyH_take (i := 1) (v := ?_) rfl (by kernel_rfl) (by kernel_rfl) (by kernel_rfl) (fun _ _ _ h => h) (Or.inl ⟨by rfl, ?_⟩) (by assumption) ?_
    rotate_left
    · (intro w hSw; (try dsimp only at hSw); go_simp; (try with_reducible rfl))
    try simp only [List.getElem_toArray, List.getElem_cons_succ, List.getElem_cons_zero, Act.put, List.setIfInBounds_toArray, List.set_cons_zero, List.set_cons_succ]
    refine wpAnyH_take (i := 2) (v := ?_) rfl (by kernel_rfl) (by kernel_rfl) (by kernel_rfl) (fun _ _ _ h => h) (Or.inl ⟨by rfl, ?_⟩) (by assumption) ?_
    rotate_left
    · (intro w hSw; (try dsimp only at hSw); go_simp; (try with_reducible rfl))
    try simp only [List.getElem_toArray, List.getElem_cons_succ, List.getElem_cons_zero, Act.put, List.setIfInBounds_toArray, List.set_cons_zero, List.set_cons_succ]
    refine wpAnyH_take (i := 3) (v := ?_) rfl (by kernel_rfl) (by kernel_rfl) (by kernel_rfl) (fun _ _ _ h => h) (Or.inl ⟨by rfl, ?_⟩) (by assumption) ?_
    rotate_left
    · (intro w hSw; (try dsimp only at hSw); go_simp; (try with_reducible rfl))
    try simp only [List.getElem_toArray, List.getElem_cons_succ, List.getElem_cons_zero, Act.put, List.setIfInBounds_toArray, List.set_cons_zero, List.set_cons_succ]
    refine wpAnyH_ready (rs := [4, 6]) (by kernel_rfl) (by simp) (AllReadyH.cons rfl (fun K hK => ?_) (AllReadyH.cons rfl (fun K hK => ?_) AllReadyH.nil))
    · refine make_op _ (.tmp 16) (.tmp 16) rfl Try.underlying26 info64 _ _ _ _ d.length rfl rfl rfl rfl (by have := HDL.out; omega) ?_
      intro w3 o' b'
      rw [← HZ.out] at o'
      have S3 := Lib.hid (S2.out.call b')
      have lo := S2.out.res.lt
      replace o' := o'.more (base' := w.heap.size + 3) lo
      obtain ⟨G, hG⟩ : ∃ G, G = w2.heap.size := ⟨_, rfl⟩
      rw [← hG] at o' ⊢
      clear hG b' lo
      refine hK.out _ _ ?_ (fun hHeld => ?_)
      · exact ⟨S3.out.box.c1, S3.out.box.c2⟩
      clear hK K
      try simp only [List.getElem_toArray, List.getElem_cons_succ, List.getElem_cons_zero, Act.put, List.setIfInBounds_toArray, List.set_cons_zero, List.set_cons_succ]
      refine wpAnyH_take (i := 5) (v := ?_) rfl (by kernel_rfl) (by kernel_rfl) (by kernel_rfl) (fun _ _ _ h => h) (Or.inl ⟨by rfl, ?_⟩) (by assumption) ?_
      rotate_left
      · (intro w hSw; (try dsimp only at hSw); go_simp; (try with_reducible rfl))
      try simp only [List.getElem_toArray, List.getElem_cons_succ, List.getElem_cons_zero, Act.put, List.setIfInBounds_toArray, List.set_cons_zero, List.set_cons_succ]
      refine wpAnyH_ready (rs := [6]) (by kernel_rfl) (by simp) (AllReadyH.cons rfl (fun K hK => ?_) AllReadyH.nil)
      go_simp
      have ZJ := FrameAt.new (T := 28) (a := 0) (q := 0) (t := 0) (m := 0) (r := 0) (s := 0) (k := 0) (v := .slice none 0 0) w3
      have bal := Below.alloc (Below.refl w3.heap.size w3) (Nat.le_refl _) (.cells #[.int .i64 0, .int .i64 0, .int .i64 0, .int .i64 0, .int .i64 0, .int .i64 0, .int .i64 0, .slice none 0 0] 28)
      have S4 := Lib.hid (S3.out.call bal)
      have hj' : w.heap.size + 2 < w3.heap.size := S3.out.res.lt
      have hn' : ∀ i, (Value.slice (some ⟨G, 0, none⟩) d.length d.length).ownBlock = some i → i ≠ w3.heap.size := fun i hi => by have h1 := (o'.block i hi).2; omega
      replace o' := o'.below bal
      obtain ⟨J, hJ⟩ : ∃ J, J = w3.heap.size := ⟨_, rfl⟩
      rw [← hJ] at ZJ hj' hn' ⊢
      clear hJ bal
      generalize w3.alloc (.cells #[.int .i64 0, .int .i64 0, .int .i64 0, .int .i64 0, .int .i64 0, .int .i64 0, .int .i64 0, .slice none 0 0] 28) = w4 at ZJ S4 o' ⊢
      refine hK.out _ _ ?_ (fun hHeld => ?_)
      · exact ⟨S4.out.box.c1, S4.out.box.c2⟩
      clear hK K
      try simp only [List.getElem_toArray, List.getElem_cons_succ, List.getElem_cons_zero, Act.put, List.setIfInBounds_toArray, List.set_cons_zero, List.set_cons_succ]
      have rc0 := ZJ.c0
      have rc1 := ZJ.c1
      have rc2 := ZJ.c2
      have rc3 := ZJ.c3
      have rc4 := ZJ.c4
      have rc5 := ZJ.c5
      have rc6 := ZJ.c6
      have rc7 := ZJ.c7
      have rf0 := ZJ.f 0
      have rf1 := ZJ.f 1
      have rf2 := ZJ.f 2
      have rf3 := ZJ.f 3
      have rf4 := ZJ.f 4
      have rf5 := ZJ.f 5
      have rf6 := ZJ.f 6
      have rf7 := ZJ.f 7
      refine wpAnyH_ready (rs := [7]) (by kernel_rfl) (by simp) (AllReadyH.cons rfl (fun K hK => ?_) AllReadyH.nil)
      go_simp
      clear rc0 rf0 rc1 rf1 rc2 rf2 rc3 rf3 rc4 rf4 rc5 rf5 rc6 rf6 rc7 rf7
      change K _ (setEight w4 J a 0 0 0 0 0 0 (.slice (some ⟨G, 0, none⟩) d.length d.length))
      have LF := EmpLd.store S4.out ZJ o' hj' hn'
      generalize setEight w4 J a 0 0 0 0 0 0 (.slice (some ⟨G, 0, none⟩) d.length d.length) = w5 at LF ⊢
      refine hK.out _ _ ?_ (fun hHeld => ?_)
      · exact ⟨LF.base.box.c1, LF.base.box.c2⟩
      clear hK K
      try simp only [List.getElem_toArray, List.getElem_cons_succ, List.getElem_cons_zero, Act.put, List.setIfInBounds_toArray, List.set_cons_zero, List.set_cons_succ]
      refine wpAnyH_done (by kernel_rfl) ?_ _
      go_wp2_with fail
      go_meet
      exact ⟨_, rfl, J, _, _, rfl, Lib.hid LF⟩
    · go_simp
      have ZJ := FrameAt.new (T := 28) (a := 0) (q := 0) (t := 0) (m := 0) (r := 0) (s := 0) (k := 0) (v := .slice none 0 0) w2
      have bal := Below.alloc (Below.refl w2.heap.size w2) (Nat.le_refl _) (.cells #[.int .i64 0, .int .i64 0, .int .i64 0, .int .i64 0, .int .i64 0, .int .i64 0, .int .i64 0, .slice none 0 0] 28)
      have S3 := Lib.hid (S2.out.call bal)
      have hj' : w.heap.size + 2 < w2.heap.size := S2.out.res.lt
      obtain ⟨J, hJ⟩ : ∃ J, J = w2.heap.size := ⟨_, rfl⟩
      rw [← hJ] at ZJ hj' ⊢
      clear hJ bal
      generalize w2.alloc (.cells #[.int .i64 0, .int .i64 0, .int .i64 0, .int .i64 0, .int .i64 0, .int .i64 0, .int .i64 0, .slice none 0 0] 28) = w3 at ZJ S3 ⊢
      refine hK.out _ _ ?_ (fun hHeld => ?_)
      · exact ⟨S3.out.box.c1, S3.out.box.c2⟩
      clear hK K
      try simp only [List.getElem_toArray, List.getElem_cons_succ, List.getElem_cons_zero, Act.put, List.setIfInBounds_toArray, List.set_cons_zero, List.set_cons_succ]
      refine wpAnyH_ready (rs := [4]) (by kernel_rfl) (by simp) (AllReadyH.cons rfl (fun K hK => ?_) AllReadyH.nil)
      refine make_op _ (.tmp 16) (.tmp 16) rfl Try.underlying26 info64 _ _ _ _ d.length rfl rfl rfl rfl (by have := HDL.out; omega) ?_
      intro w4 o' b'
      rw [← HZ.out] at o'
      have S4 := Lib.hid (S3.out.call b')
      have lo := S3.out.res.lt
      have hn' : ∀ i, (Value.slice (some ⟨w3.heap.size, 0, none⟩) d.length d.length).ownBlock = some i → i ≠ J := fun i hi => by have h1 := (o'.block i hi).1; have h2 := ZJ.lt; omega
      replace ZJ := ZJ.below b' ZJ.lt
      replace o' := o'.more (base' := w.heap.size + 3) lo
      obtain ⟨G, hG⟩ : ∃ G, G = w3.heap.size := ⟨_, rfl⟩
      rw [← hG] at o' hn' ⊢
      clear hG b' lo
      refine hK.out _ _ ?_ (fun hHeld => ?_)
      · exact ⟨S4.out.box.c1, S4.out.box.c2⟩
      clear hK K
      try simp only [List.getElem_toArray, List.getElem_cons_succ, List.getElem_cons_zero, Act.put, List.setIfInBounds_toArray, List.set_cons_zero, List.set_cons_succ]
      refine wpAnyH_take (i := 5) (v := ?_) rfl (by kernel_rfl) (by kernel_rfl) (by kernel_rfl) (fun _ _ _ h => h) (Or.inl ⟨by rfl, ?_⟩) (by assumption) ?_
      rotate_left
      · (intro w hSw; (try dsimp only at hSw); go_simp; (try with_reducible rfl))
      try simp only [List.getElem_toArray, List.getElem_cons_succ, List.getElem_cons_zero, Act.put, List.setIfInBounds_toArray, List.set_cons_zero, List.set_cons_succ]
      have rc0 := ZJ.c0
      have rc1 := ZJ.c1
      have rc2 := ZJ.c2
      have rc3 := ZJ.c3
      have rc4 := ZJ.c4
      have rc5 := ZJ.c5
      have rc6 := ZJ.c6
      have rc7 := ZJ.c7
      have rf0 := ZJ.f 0
      have rf1 := ZJ.f 1
      have rf2 := ZJ.f 2
      have rf3 := ZJ.f 3
      have rf4 := ZJ.f 4
      have rf5 := ZJ.f 5
      have rf6 := ZJ.f 6
      have rf7 := ZJ.f 7
      refine wpAnyH_ready (rs := [7]) (by kernel_rfl) (by simp) (AllReadyH.cons rfl (fun K hK => ?_) AllReadyH.nil)
      go_simp
      clear rc0 rf0 rc1 rf1 rc2 rf2 rc3 rf3 rc4 rf4 rc5 rf5 rc6 rf6 rc7 rf7
      change K _ (setEight w4 J a 0 0 0 0 0 0 (.slice (some ⟨G, 0, none⟩) d.length d.length))
      have LF := EmpLd.store S4.out ZJ o' hj' hn'
      generalize setEight w4 J a 0 0 0 0 0 0 (.slice (some ⟨G, 0, none⟩) d.length d.length) = w5 at LF ⊢
      refine hK.out _ _ ?_ (fun hHeld => ?_)
      · exact ⟨LF.base.box.c1, LF.base.box.c2⟩
      clear hK K
      try simp only [List.getElem_toArray, List.getElem_cons_succ, List.getElem_cons_zero, Act.put, List.setIfInBounds_toArray, List.set_cons_zero, List.set_cons_succ]
      refine wpAnyH_done (by kernel_rfl) ?_ _
      go_wp2_with fail
      go_meet
      exact ⟨_, rfl, J, _, _, rfl, Lib.hid LF⟩
  case rest =>
    obtain ⟨wx, rfl, J, p, c', rfl, LD⟩ := hcut
    have d1 := LD.out.base.box.c1
    go_wp2_with fail
    clear d1
    refine (hasStateAndData_any _ _).mono ?_
    rintro e w5 ⟨rfl, rfl⟩
    rw [HS.out]
    have v2 := LD.out.var.c2; have f2 := LD.out.var.f 2
    have v3 := LD.out.var.c3; have f3 := LD.out.var.f 3
    have v4 := LD.out.var.c4; have f4 := LD.out.var.f 4
    have v5 := LD.out.var.c5; have f5 := LD.out.var.f 5
    have v6 := LD.out.var.c6; have f6 := LD.out.var.f 6
    have s0 := LD.out.base.st.c0
    have s1 := LD.out.base.st.c1
    have s2 := LD.out.base.st.c2
    have s3 := LD.out.base.st.c3
    have s4 := LD.out.base.st.c4
    go_upto_region 7 with fail
    clear v2 f2 v3 f3 v4 f4 v5 f5 v6 f6 s0 s1 s2 s3 s4
    have L2 := LD.out.five t m r s k
    change Code.wp _ _ _ _ (setFiveAt wx J 2 t m r s k)
    generalize setFiveAt wx J 2 t m r s k = w6 at L2 ⊢
    clear LD
    have LD := Lib.hid L2; clear L2
    have v0 := LD.out.var.c0
    have v1 := LD.out.var.c1
    have v2 := LD.out.var.c2
    have v3 := LD.out.var.c3
    have v4 := LD.out.var.c4
    have v5 := LD.out.var.c5
    have v6 := LD.out.var.c6
    have v7 := LD.out.var.c7
    obtain ⟨_, _, ee, -, rr⟩ := LD.out.own.get
    cases ee
    have hf := fun (W : World) (h : Rd W p d.length d) => isFrame_any a 0 t m r s k p c' d W h HDM.out
    rw [HV.out] at hf
    cases v with
    | false =>
      have HF := Lib.hid hf; clear hf
      obtain ⟨rfl, rfl⟩ := HG0.out rfl
      clear HV HG0 HG1
      go_wp2_with (go_at_call 52; refine (HF.out _ rr).mono ?_; rintro e w7 ⟨rfl, b7⟩; have L7 := Lib.hid (LD.out.call b7); clear b7 v0 v1 v2 v3 v4 v5 v6 v7; have f0 : w7.frozen? ⟨w.heap.size + 1 + 1, 0, none⟩ = false := L7.out.base.res.f 0; have f1 : w7.frozen? ⟨w.heap.size + 1 + 1, 1, none⟩ = false := L7.out.base.res.f 1; have f2 : w7.frozen? ⟨w.heap.size + 1 + 1, 2, none⟩ = false := L7.out.base.res.f 2; have f3 : w7.frozen? ⟨w.heap.size + 1 + 1, 3, none⟩ = false := L7.out.base.res.f 3; have f4 : w7.frozen? ⟨w.heap.size + 1 + 1, 4, none⟩ = false := L7.out.base.res.f 4; have f5 : w7.frozen? ⟨w.heap.size + 1 + 1, 5, none⟩ = false := L7.out.base.res.f 5; have f6 : w7.frozen? ⟨w.heap.size + 1 + 1, 6, none⟩ = false := L7.out.base.res.f 6; have f7 : w7.frozen? ⟨w.heap.size + 1 + 1, 7, none⟩ = false := L7.out.base.res.f 7; have q0 : w7.cell? ⟨w.heap.size + 1 + 1, 0, none⟩ = _ := L7.out.base.res.c0; have q1 : w7.cell? ⟨w.heap.size + 1 + 1, 1, none⟩ = _ := L7.out.base.res.c1; have q2 : w7.cell? ⟨w.heap.size + 1 + 1, 2, none⟩ = _ := L7.out.base.res.c2; have q3 : w7.cell? ⟨w.heap.size + 1 + 1, 3, none⟩ = _ := L7.out.base.res.c3; have q4 : w7.cell? ⟨w.heap.size + 1 + 1, 4, none⟩ = _ := L7.out.base.res.c4; have q5 : w7.cell? ⟨w.heap.size + 1 + 1, 5, none⟩ = _ := L7.out.base.res.c5; have q6 : w7.cell? ⟨w.heap.size + 1 + 1, 6, none⟩ = _ := L7.out.base.res.c6; have q7 : w7.cell? ⟨w.heap.size + 1 + 1, 7, none⟩ = _ := L7.out.base.res.c7)
      clear q0 f0 q1 f1 q2 f2 q3 f3 q4 f4 q5 f5 q6 f6 q7 f7
      change bodyPost _ _ _ _ _ (setEight w7 (w.heap.size + 2) 0 0 0 0 0 0 0 (.slice none 0 0))
      obtain ⟨SF, BF⟩ := L7.out.base.fin 0 0 0 0 0 0 0 (.slice none 0 0)
      generalize setEight w7 (w.heap.size + 2) 0 0 0 0 0 0 0 (.slice none 0 0) = wz at SF BF ⊢
      have q0 : wz.cell? ⟨w.heap.size + 1 + 1, 0, none⟩ = _ := SF.c0
      have q1 : wz.cell? ⟨w.heap.size + 1 + 1, 1, none⟩ = _ := SF.c1
      have q2 : wz.cell? ⟨w.heap.size + 1 + 1, 2, none⟩ = _ := SF.c2
      have q3 : wz.cell? ⟨w.heap.size + 1 + 1, 3, none⟩ = _ := SF.c3
      have q4 : wz.cell? ⟨w.heap.size + 1 + 1, 4, none⟩ = _ := SF.c4
      have q5 : wz.cell? ⟨w.heap.size + 1 + 1, 5, none⟩ = _ := SF.c5
      have q6 : wz.cell? ⟨w.heap.size + 1 + 1, 6, none⟩ = _ := SF.c6
      have q7 : wz.cell? ⟨w.heap.size + 1 + 1, 7, none⟩ = _ := SF.c7
      exact bodyPost_ret (v := .tuple #[.agg #[.int .i64 0, .int .i64 0, .int .i64 0, .int .i64 0, .int .i64 0, .int .i64 0, .int .i64 0, .slice none 0 0], .int .i64 2]) (by simp [results, Try.results49, go_sem, q0, q1, q2, q3, q4, q5, q6, q7]) rfl ⟨_, _, rfl, Own.nil_, BF⟩
    | true =>
      have HF := Lib.hid hf; clear hf
      obtain ⟨rfl, rfl⟩ := HG1.out rfl
      clear HV HG0 HG1
      go_wp2_with (go_at_call 52; refine (HF.out _ rr).mono ?_; rintro e w7 ⟨rfl, b7⟩; have L7 := Lib.hid (LD.out.call b7); clear b7 v0 v1 v2 v3 v4 v5 v6 v7; have f0 : w7.frozen? ⟨w.heap.size + 1 + 1, 0, none⟩ = false := L7.out.base.res.f 0; have f1 : w7.frozen? ⟨w.heap.size + 1 + 1, 1, none⟩ = false := L7.out.base.res.f 1; have f2 : w7.frozen? ⟨w.heap.size + 1 + 1, 2, none⟩ = false := L7.out.base.res.f 2; have f3 : w7.frozen? ⟨w.heap.size + 1 + 1, 3, none⟩ = false := L7.out.base.res.f 3; have f4 : w7.frozen? ⟨w.heap.size + 1 + 1, 4, none⟩ = false := L7.out.base.res.f 4; have f5 : w7.frozen? ⟨w.heap.size + 1 + 1, 5, none⟩ = false := L7.out.base.res.f 5; have f6 : w7.frozen? ⟨w.heap.size + 1 + 1, 6, none⟩ = false := L7.out.base.res.f 6; have f7 : w7.frozen? ⟨w.heap.size + 1 + 1, 7, none⟩ = false := L7.out.base.res.f 7; have q0 : w7.cell? ⟨w.heap.size + 1 + 1, 0, none⟩ = _ := L7.out.base.res.c0; have q1 : w7.cell? ⟨w.heap.size + 1 + 1, 1, none⟩ = _ := L7.out.base.res.c1; have q2 : w7.cell? ⟨w.heap.size + 1 + 1, 2, none⟩ = _ := L7.out.base.res.c2; have q3 : w7.cell? ⟨w.heap.size + 1 + 1, 3, none⟩ = _ := L7.out.base.res.c3; have q4 : w7.cell? ⟨w.heap.size + 1 + 1, 4, none⟩ = _ := L7.out.base.res.c4; have q5 : w7.cell? ⟨w.heap.size + 1 + 1, 5, none⟩ = _ := L7.out.base.res.c5; have q6 : w7.cell? ⟨w.heap.size + 1 + 1, 6, none⟩ = _ := L7.out.base.res.c6; have q7 : w7.cell? ⟨w.heap.size + 1 + 1, 7, none⟩ = _ := L7.out.base.res.c7; have v0 := L7.out.var.c0; have v1 := L7.out.var.c1; have v2 := L7.out.var.c2; have v3 := L7.out.var.c3; have v4 := L7.out.var.c4; have v5 := L7.out.var.c5; have v6 := L7.out.var.c6; have v7 := L7.out.var.c7)
      clear q0 f0 q1 f1 q2 f2 q3 f3 q4 f4 q5 f5 q6 f6 q7 f7 v0 v1 v2 v3 v4 v5 v6 v7
      change bodyPost _ _ _ _ _ (setEight w7 (w.heap.size + 2) a 0 t m r s k (.slice p d.length c'))
      obtain ⟨SF, BF, OF⟩ := L7.out.fin
      generalize setEight w7 (w.heap.size + 2) a 0 t m r s k (.slice p d.length c') = wz at SF BF OF ⊢
      have q0 : wz.cell? ⟨w.heap.size + 1 + 1, 0, none⟩ = _ := SF.c0
      have q1 : wz.cell? ⟨w.heap.size + 1 + 1, 1, none⟩ = _ := SF.c1
      have q2 : wz.cell? ⟨w.heap.size + 1 + 1, 2, none⟩ = _ := SF.c2
      have q3 : wz.cell? ⟨w.heap.size + 1 + 1, 3, none⟩ = _ := SF.c3
      have q4 : wz.cell? ⟨w.heap.size + 1 + 1, 4, none⟩ = _ := SF.c4
      have q5 : wz.cell? ⟨w.heap.size + 1 + 1, 5, none⟩ = _ := SF.c5
      have q6 : wz.cell? ⟨w.heap.size + 1 + 1, 6, none⟩ = _ := SF.c6
      have q7 : wz.cell? ⟨w.heap.size + 1 + 1, 7, none⟩ = _ := SF.c7
      exact bodyPost_ret (v := .tuple #[.agg #[.int .i64 a, .int .i64 0, .int .i64 t, .int .i64 m, .int .i64 r, .int .i64 s, .int .i64 k, .slice p d.length c'], .int .i64 0]) (by simp [results, Try.results49, go_sem, q0, q1, q2, q3, q4, q5, q6, q7]) rfl ⟨_, _, rfl, OF, BF⟩
theorem emptyFrame_any (n a z u : Int) (c : Bool) (t m r s k : Int) (w : World) : Calls Try.prog 49 #[.agg #[.int .i64 n, .int .i64 a, .int .i64 z, .int .i64 u, .bool c], .agg #[.int .i64 t, .int .i64 m, .int .i64 r, .int .i64 s, .int .i64 k]] w (GivesFB w (emptyFrame ⟨n, a, z, u, c⟩ t m r s k).1 (.int .i64 (emptyFrame ⟨n, a, z, u, c⟩ t m r s k).2)) := by
  rcases hd : isDesc ⟨n, a, z, u, c⟩ with _ | _
  · exact em1 n a z u c t m r s k w hd
  obtain ⟨-, hk, hs, -⟩ := desc_parts hd
  simp only at hk hs
  have hz := sizeOk_le hs
  obtain ⟨d, hdd⟩ : ∃ d, d = zeros8 z := ⟨_, rfl⟩
  have hl : (d.length : Int) = z := by rw [hdd]; exact zeros_len hz.1
  have hrep : d = List.replicate d.length 0 := by rw [hdd]; unfold zeros8; rw [List.length_replicate]
  subst hl
  have hdl : d.length ≤ 32 := by omega
  rcases hst : hasState a with _ | _
  · have he : emptyOf ⟨n, a, (d.length : Int), u, c⟩ t m r s k = ⟨a, 0, 0, 0, 0, 0, 0, d⟩ := by unfold emptyOf; rw [if_neg (by simp [hst]), ← hdd]
    exact em20 n a u c t m r s k d w hrep hdl hk hst hd _ rfl _ _ (fun e => by rw [ef_2 hd (by rw [he]; exact e)]; exact ⟨rfl, rfl⟩) (fun e => by rw [ef_0 hd (by rw [he]; exact e), he]; exact ⟨rfl, rfl⟩)
  · have he : emptyOf ⟨n, a, (d.length : Int), u, c⟩ t m r s k = ⟨a, 0, t, m, r, s, k, d⟩ := by unfold emptyOf; rw [if_pos hst, ← hdd]
    exact em21 n a u c t m r s k d w hrep hdl hk hst hd _ rfl _ _ (fun e => by rw [ef_2 hd (by rw [he]; exact e)]; exact ⟨rfl, rfl⟩) (fun e => by rw [ef_0 hd (by rw [he]; exact e), he]; exact ⟨rfl, rfl⟩)
set_option maxRecDepth 100000 in
theorem se1 (n a z u : Int) (c : Bool) (t m r s k : Int) (w : World) (hd : isDesc ⟨n, a, z, u, c⟩ = false) : Calls Try.prog 50 #[.agg #[.int .i64 n, .int .i64 a, .int .i64 z, .int .i64 u, .bool c], .agg #[.int .i64 t, .int .i64 m, .int .i64 r, .int .i64 s, .int .i64 k]] w (GivesFB w (emptyFrame ⟨n, a, z, u, c⟩ t m r s k).1 (.int .i64 (emptyFrame ⟨n, a, z, u, c⟩ t m r s k).2)) := by
  rw [ef_1 hd]
  have hi := fun (W : World) => sIsDescriptor_any n a z u c W
  rw [hd] at hi
  have S0 := Lib.hid (EmpSt.start (n := n) (a := a) (z := z) (u := u) (c := c) (t := t) (m := m) (r := r) (s := s) (k := k) w)
  have HI := Lib.hid hi; clear hi hd
  go_enter Try.func50, Try.ntmps50
  go_upto_region 1 with fail
  generalize (((w.alloc (.cells #[.int .i64 n, .int .i64 a, .int .i64 z, .int .i64 u, .bool c] 49)).alloc (.cells #[.int .i64 t, .int .i64 m, .int .i64 r, .int .i64 s, .int .i64 k] 25)).alloc (.cells #[.int .i64 0, .int .i64 0, .int .i64 0, .int .i64 0, .int .i64 0, .int .i64 0, .int .i64 0, .slice none 0 0] 28)) = w0 at S0 ⊢
  have e0 := S0.out.box.c0; have e1 := S0.out.box.c1; have e2 := S0.out.box.c2; have e3 := S0.out.box.c3; have e4 := S0.out.box.c4
  go_wp2_with (go_at_call 44; refine (HI.out _).mono ?_; rintro e w1 ⟨rfl, b1⟩; have S1 := Lib.hid (S0.out.call b1); clear b1; have f0 : w1.frozen? ⟨w.heap.size + 1 + 1, 0, none⟩ = false := S1.out.res.f 0; have f1 : w1.frozen? ⟨w.heap.size + 1 + 1, 1, none⟩ = false := S1.out.res.f 1; have f2 : w1.frozen? ⟨w.heap.size + 1 + 1, 2, none⟩ = false := S1.out.res.f 2; have f3 : w1.frozen? ⟨w.heap.size + 1 + 1, 3, none⟩ = false := S1.out.res.f 3; have f4 : w1.frozen? ⟨w.heap.size + 1 + 1, 4, none⟩ = false := S1.out.res.f 4; have f5 : w1.frozen? ⟨w.heap.size + 1 + 1, 5, none⟩ = false := S1.out.res.f 5; have f6 : w1.frozen? ⟨w.heap.size + 1 + 1, 6, none⟩ = false := S1.out.res.f 6; have f7 : w1.frozen? ⟨w.heap.size + 1 + 1, 7, none⟩ = false := S1.out.res.f 7; have q0 : w1.cell? ⟨w.heap.size + 1 + 1, 0, none⟩ = _ := S1.out.res.c0; have q1 : w1.cell? ⟨w.heap.size + 1 + 1, 1, none⟩ = _ := S1.out.res.c1; have q2 : w1.cell? ⟨w.heap.size + 1 + 1, 2, none⟩ = _ := S1.out.res.c2; have q3 : w1.cell? ⟨w.heap.size + 1 + 1, 3, none⟩ = _ := S1.out.res.c3; have q4 : w1.cell? ⟨w.heap.size + 1 + 1, 4, none⟩ = _ := S1.out.res.c4; have q5 : w1.cell? ⟨w.heap.size + 1 + 1, 5, none⟩ = _ := S1.out.res.c5; have q6 : w1.cell? ⟨w.heap.size + 1 + 1, 6, none⟩ = _ := S1.out.res.c6; have q7 : w1.cell? ⟨w.heap.size + 1 + 1, 7, none⟩ = _ := S1.out.res.c7)
  clear e0 e1 e2 e3 e4 q0 f0 q1 f1 q2 f2 q3 f3 q4 f4 q5 f5 q6 f6 q7 f7
  change bodyPost _ _ _ _ _ (setEight w1 (w.heap.size + 2) 0 0 0 0 0 0 0 (.slice none 0 0))
  obtain ⟨SF, BF⟩ := S1.out.fin 0 0 0 0 0 0 0 (.slice none 0 0)
  generalize setEight w1 (w.heap.size + 2) 0 0 0 0 0 0 0 (.slice none 0 0) = wz at SF BF ⊢
  have q0 : wz.cell? ⟨w.heap.size + 1 + 1, 0, none⟩ = _ := SF.c0; have q1 : wz.cell? ⟨w.heap.size + 1 + 1, 1, none⟩ = _ := SF.c1; have q2 : wz.cell? ⟨w.heap.size + 1 + 1, 2, none⟩ = _ := SF.c2; have q3 : wz.cell? ⟨w.heap.size + 1 + 1, 3, none⟩ = _ := SF.c3; have q4 : wz.cell? ⟨w.heap.size + 1 + 1, 4, none⟩ = _ := SF.c4; have q5 : wz.cell? ⟨w.heap.size + 1 + 1, 5, none⟩ = _ := SF.c5; have q6 : wz.cell? ⟨w.heap.size + 1 + 1, 6, none⟩ = _ := SF.c6; have q7 : wz.cell? ⟨w.heap.size + 1 + 1, 7, none⟩ = _ := SF.c7
  exact bodyPost_ret (v := .tuple #[.agg #[.int .i64 0, .int .i64 0, .int .i64 0, .int .i64 0, .int .i64 0, .int .i64 0, .int .i64 0, .slice none 0 0], .int .i64 1]) (by simp [results, Try.results50, go_sem, q0, q1, q2, q3, q4, q5, q6, q7]) rfl ⟨_, _, rfl, Own.nil_, BF⟩
set_option maxHeartbeats 4000000 in
set_option maxRecDepth 100000 in
set_option linter.unusedVariables false in
set_option linter.unusedSimpArgs false in
theorem se20 (n a u : Int) (c : Bool) (t m r s k : Int) (d : List Int) (w : World) (hz : d = List.replicate d.length 0) (hdl : d.length ≤ 32) (hk : kindOk a = true) (hs : hasState a = false) (hd : isDesc ⟨n, a, (d.length : Int), u, c⟩ = true) (v : Bool) (hv : isFrame ⟨a, 0, 0, 0, 0, 0, 0, d⟩ = v) (G : Fr) (cc : Int) (hg0 : v = false → G = Fr.zero ∧ cc = 2) (hg1 : v = true → G = ⟨a, 0, 0, 0, 0, 0, 0, d⟩ ∧ cc = 0) : Calls Try.prog 50 #[.agg #[.int .i64 n, .int .i64 a, .int .i64 d.length, .int .i64 u, .bool c], .agg #[.int .i64 t, .int .i64 m, .int .i64 r, .int .i64 s, .int .i64 k]] w (GivesFB w G (.int .i64 cc)) := by
  have hi := fun (W : World) => sIsDescriptor_any n a (d.length : Int) u c W
  rw [hd] at hi
  have S0 := Lib.hid (EmpSt.start (n := n) (a := a) (z := (d.length : Int)) (u := u) (c := c) (t := t) (m := m) (r := r) (s := s) (k := k) w)
  have hdl2 : d.length ≤ 1048576 := by omega
  have HI := Lib.hid hi; have HZ := Lib.hid hz; have HDL := Lib.hid hdl; have HS := Lib.hid hs; have HV := Lib.hid hv; have HK := Lib.hid hk; have HDM := Lib.hid hdl2; have HG0 := Lib.hid hg0; have HG1 := Lib.hid hg1; clear hi hd hz hdl hs hv hk hdl2 hg0 hg1
  go_enter Try.func50, Try.ntmps50
  go_upto_region 1 with fail
  generalize (((w.alloc (.cells #[.int .i64 n, .int .i64 a, .int .i64 d.length, .int .i64 u, .bool c] 49)).alloc (.cells #[.int .i64 t, .int .i64 m, .int .i64 r, .int .i64 s, .int .i64 k] 25)).alloc (.cells #[.int .i64 0, .int .i64 0, .int .i64 0, .int .i64 0, .int .i64 0, .int .i64 0, .int .i64 0, .slice none 0 0] 28)) = w0 at S0 ⊢
  have e0 := S0.out.box.c0; have e1 := S0.out.box.c1; have e2 := S0.out.box.c2; have e3 := S0.out.box.c3; have e4 := S0.out.box.c4
  go_upto_region 3 with (go_at_call 44; refine (HI.out _).mono ?_; rintro e w1 ⟨rfl, b1⟩; have S1 := Lib.hid (S0.out.call b1); clear b1)
  clear e0 e1 e2 e3 e4 S0
  go_cut [6] (fun s6 wx => ∃ wy, wy = wx ∧ ∃ J p c', s6 = .pointer (some ⟨J, 0, none⟩) ∧ Hid (EmpLd w wy n a (d.length : Int) u c t m r s k J 0 0 0 0 0 p c' d))
  case first =>
    have S2 : Hid (EmpSt w w1.drew n a (d.length : Int) u c t m r s k) := Lib.hid (S1.out.call (Below.drew (Below.refl _ _)))
    refine wp_region_held_drew (S := fun w' => w'.cell? ⟨w.heap.size, 1, none⟩ = some (.int .i64 a) ∧ w'.cell? ⟨w.heap.size, 2, none⟩ = some (.int .i64 d.length)) (by kernel_rfl) (⟨S2.out.box.c1, S2.out.box.c2⟩) (fun hHeld => ?_)
    generalize w1.drew = w2 at S2 hHeld ⊢
    clear S1
    refine wpAnyH_take (i := 0) (v := ?_) rfl (by kernel_rfl) (by kernel_rfl) (by kernel_rfl) (fun _ _ _ h => h) (Or.inl ⟨by rfl, ?_⟩) (by assumption) ?_
    rotate_left
    · (intro w hSw; (try dsimp only at hSw); go_simp; (try with_reducible rfl))
    try simp only [List.getElem_toArray, List.getElem_cons_succ, List.getElem_cons_zero, Act.put, List.setIfInBounds_toArray, List.set_cons_zero, List.set_cons_succ]
    refine wpAnyH_take (i := 1) (v := ?_) rfl (by kernel_rfl) (by kernel_rfl) (by kernel_rfl) (fun _ _ _ h => h) (Or.inl ⟨by rfl, ?_⟩) (by assumption) ?_
    rotate_left
    · (intro w hSw; (try dsimp only at hSw); go_simp; (try with_reducible rfl))
    try simp only [List.getElem_toArray, List.getElem_cons_succ, List.getElem_cons_zero, Act.put, List.setIfInBounds_toArray, List.set_cons_zero, List.set_cons_succ]
    refine wpAnyH_take (i := 2) (v := ?_) rfl (by kernel_rfl) (by kernel_rfl) (by kernel_rfl) (fun _ _ _ h => h) (Or.inl ⟨by rfl, ?_⟩) (by assumption) ?_
    rotate_left
    · (intro w hSw; (try dsimp only at hSw); go_simp; (try with_reducible rfl))
    try simp only [List.getElem_toArray, List.getElem_cons_succ, List.getElem_cons_zero, Act.put, List.setIfInBounds_toArray, List.set_cons_zero, List.set_cons_succ]
    refine wpAnyH_take (i := 3) (v := ?_) rfl (by kernel_rfl) (by kernel_rfl) (by kernel_rfl) (fun _ _ _ h => h) (Or.inl ⟨by rfl, ?_⟩) (by assumption) ?_
    rotate_left
    · (intro w hSw; (try dsimp only at hSw); go_simp; (try with_reducible rfl))
    try simp only [List.getElem_toArray, List.getElem_cons_succ, List.getElem_cons_zero, Act.put, List.setIfInBounds_toArray, List.set_cons_zero, List.set_cons_succ]
    refine wpAnyH_ready (rs := [4, 6]) (by kernel_rfl) (by simp) (AllReadyH.cons rfl (fun K hK => ?_) (AllReadyH.cons rfl (fun K hK => ?_) AllReadyH.nil))
    · refine make_op _ (.tmp 14) (.tmp 14) rfl Try.underlying26 info64 _ _ _ _ d.length rfl rfl rfl rfl (by have := HDL.out; omega) ?_
      intro w3 o' b'
      rw [← HZ.out] at o'
      have S3 := Lib.hid (S2.out.call b')
      have lo := S2.out.res.lt
      replace o' := o'.more (base' := w.heap.size + 3) lo
      obtain ⟨G, hG⟩ : ∃ G, G = w2.heap.size := ⟨_, rfl⟩
      rw [← hG] at o' ⊢
      clear hG b' lo
      refine hK.out _ _ ?_ (fun hHeld => ?_)
      · exact ⟨S3.out.box.c1, S3.out.box.c2⟩
      clear hK K
      try simp only [List.getElem_toArray, List.getElem_cons_succ, List.getElem_cons_zero, Act.put, List.setIfInBounds_toArray, List.set_cons_zero, List.set_cons_succ]
      refine wpAnyH_take (i := 5) (v := ?_) rfl (by kernel_rfl) (by kernel_rfl) (by kernel_rfl) (fun _ _ _ h => h) (Or.inl ⟨by rfl, ?_⟩) (by assumption) ?_
      rotate_left
      · (intro w hSw; (try dsimp only at hSw); go_simp; (try with_reducible rfl))
      try simp only [List.getElem_toArray, List.getElem_cons_succ, List.getElem_cons_zero, Act.put, List.setIfInBounds_toArray, List.set_cons_zero, List.set_cons_succ]
      refine wpAnyH_ready (rs := [6]) (by kernel_rfl) (by simp) (AllReadyH.cons rfl (fun K hK => ?_) AllReadyH.nil)
      go_simp
      have ZJ := FrameAt.new (T := 28) (a := 0) (q := 0) (t := 0) (m := 0) (r := 0) (s := 0) (k := 0) (v := .slice none 0 0) w3
      have bal := Below.alloc (Below.refl w3.heap.size w3) (Nat.le_refl _) (.cells #[.int .i64 0, .int .i64 0, .int .i64 0, .int .i64 0, .int .i64 0, .int .i64 0, .int .i64 0, .slice none 0 0] 28)
      have S4 := Lib.hid (S3.out.call bal)
      have hj' : w.heap.size + 2 < w3.heap.size := S3.out.res.lt
      have hn' : ∀ i, (Value.slice (some ⟨G, 0, none⟩) d.length d.length).ownBlock = some i → i ≠ w3.heap.size := fun i hi => by have h1 := (o'.block i hi).2; omega
      replace o' := o'.below bal
      obtain ⟨J, hJ⟩ : ∃ J, J = w3.heap.size := ⟨_, rfl⟩
      rw [← hJ] at ZJ hj' hn' ⊢
      clear hJ bal
      generalize w3.alloc (.cells #[.int .i64 0, .int .i64 0, .int .i64 0, .int .i64 0, .int .i64 0, .int .i64 0, .int .i64 0, .slice none 0 0] 28) = w4 at ZJ S4 o' ⊢
      refine hK.out _ _ ?_ (fun hHeld => ?_)
      · exact ⟨S4.out.box.c1, S4.out.box.c2⟩
      clear hK K
      try simp only [List.getElem_toArray, List.getElem_cons_succ, List.getElem_cons_zero, Act.put, List.setIfInBounds_toArray, List.set_cons_zero, List.set_cons_succ]
      have rc0 := ZJ.c0
      have rc1 := ZJ.c1
      have rc2 := ZJ.c2
      have rc3 := ZJ.c3
      have rc4 := ZJ.c4
      have rc5 := ZJ.c5
      have rc6 := ZJ.c6
      have rc7 := ZJ.c7
      have rf0 := ZJ.f 0
      have rf1 := ZJ.f 1
      have rf2 := ZJ.f 2
      have rf3 := ZJ.f 3
      have rf4 := ZJ.f 4
      have rf5 := ZJ.f 5
      have rf6 := ZJ.f 6
      have rf7 := ZJ.f 7
      refine wpAnyH_ready (rs := [7]) (by kernel_rfl) (by simp) (AllReadyH.cons rfl (fun K hK => ?_) AllReadyH.nil)
      go_simp
      clear rc0 rf0 rc1 rf1 rc2 rf2 rc3 rf3 rc4 rf4 rc5 rf5 rc6 rf6 rc7 rf7
      change K _ (setEight w4 J a 0 0 0 0 0 0 (.slice (some ⟨G, 0, none⟩) d.length d.length))
      have LF := EmpLd.store S4.out ZJ o' hj' hn'
      generalize setEight w4 J a 0 0 0 0 0 0 (.slice (some ⟨G, 0, none⟩) d.length d.length) = w5 at LF ⊢
      refine hK.out _ _ ?_ (fun hHeld => ?_)
      · exact ⟨LF.base.box.c1, LF.base.box.c2⟩
      clear hK K
      try simp only [List.getElem_toArray, List.getElem_cons_succ, List.getElem_cons_zero, Act.put, List.setIfInBounds_toArray, List.set_cons_zero, List.set_cons_succ]
      refine wpAnyH_done (by kernel_rfl) ?_ _
      go_wp2_with fail
      go_meet
      exact ⟨_, rfl, J, _, _, rfl, Lib.hid LF⟩
    · go_simp
      have ZJ := FrameAt.new (T := 28) (a := 0) (q := 0) (t := 0) (m := 0) (r := 0) (s := 0) (k := 0) (v := .slice none 0 0) w2
      have bal := Below.alloc (Below.refl w2.heap.size w2) (Nat.le_refl _) (.cells #[.int .i64 0, .int .i64 0, .int .i64 0, .int .i64 0, .int .i64 0, .int .i64 0, .int .i64 0, .slice none 0 0] 28)
      have S3 := Lib.hid (S2.out.call bal)
      have hj' : w.heap.size + 2 < w2.heap.size := S2.out.res.lt
      obtain ⟨J, hJ⟩ : ∃ J, J = w2.heap.size := ⟨_, rfl⟩
      rw [← hJ] at ZJ hj' ⊢
      clear hJ bal
      generalize w2.alloc (.cells #[.int .i64 0, .int .i64 0, .int .i64 0, .int .i64 0, .int .i64 0, .int .i64 0, .int .i64 0, .slice none 0 0] 28) = w3 at ZJ S3 ⊢
      refine hK.out _ _ ?_ (fun hHeld => ?_)
      · exact ⟨S3.out.box.c1, S3.out.box.c2⟩
      clear hK K
      try simp only [List.getElem_toArray, List.getElem_cons_succ, List.getElem_cons_zero, Act.put, List.setIfInBounds_toArray, List.set_cons_zero, List.set_cons_succ]
      refine wpAnyH_ready (rs := [4]) (by kernel_rfl) (by simp) (AllReadyH.cons rfl (fun K hK => ?_) AllReadyH.nil)
      refine make_op _ (.tmp 14) (.tmp 14) rfl Try.underlying26 info64 _ _ _ _ d.length rfl rfl rfl rfl (by have := HDL.out; omega) ?_
      intro w4 o' b'
      rw [← HZ.out] at o'
      have S4 := Lib.hid (S3.out.call b')
      have lo := S3.out.res.lt
      have hn' : ∀ i, (Value.slice (some ⟨w3.heap.size, 0, none⟩) d.length d.length).ownBlock = some i → i ≠ J := fun i hi => by have h1 := (o'.block i hi).1; have h2 := ZJ.lt; omega
      replace ZJ := ZJ.below b' ZJ.lt
      replace o' := o'.more (base' := w.heap.size + 3) lo
      obtain ⟨G, hG⟩ : ∃ G, G = w3.heap.size := ⟨_, rfl⟩
      rw [← hG] at o' hn' ⊢
      clear hG b' lo
      refine hK.out _ _ ?_ (fun hHeld => ?_)
      · exact ⟨S4.out.box.c1, S4.out.box.c2⟩
      clear hK K
      try simp only [List.getElem_toArray, List.getElem_cons_succ, List.getElem_cons_zero, Act.put, List.setIfInBounds_toArray, List.set_cons_zero, List.set_cons_succ]
      refine wpAnyH_take (i := 5) (v := ?_) rfl (by kernel_rfl) (by kernel_rfl) (by kernel_rfl) (fun _ _ _ h => h) (Or.inl ⟨by rfl, ?_⟩) (by assumption) ?_
      rotate_left
      · (intro w hSw; (try dsimp only at hSw); go_simp; (try with_reducible rfl))
      try simp only [List.getElem_toArray, List.getElem_cons_succ, List.getElem_cons_zero, Act.put, List.setIfInBounds_toArray, List.set_cons_zero, List.set_cons_succ]
      have rc0 := ZJ.c0
      have rc1 := ZJ.c1
      have rc2 := ZJ.c2
      have rc3 := ZJ.c3
      have rc4 := ZJ.c4
      have rc5 := ZJ.c5
      have rc6 := ZJ.c6
      have rc7 := ZJ.c7
      have rf0 := ZJ.f 0
      have rf1 := ZJ.f 1
      have rf2 := ZJ.f 2
      have rf3 := ZJ.f 3
      have rf4 := ZJ.f 4
      have rf5 := ZJ.f 5
      have rf6 := ZJ.f 6
      have rf7 := ZJ.f 7
      refine wpAnyH_ready (rs := [7]) (by kernel_rfl) (by simp) (AllReadyH.cons rfl (fun K hK => ?_) AllReadyH.nil)
      go_simp
      clear rc0 rf0 rc1 rf1 rc2 rf2 rc3 rf3 rc4 rf4 rc5 rf5 rc6 rf6 rc7 rf7
      change K _ (setEight w4 J a 0 0 0 0 0 0 (.slice (some ⟨G, 0, none⟩) d.length d.length))
      have LF := EmpLd.store S4.out ZJ o' hj' hn'
      generalize setEight w4 J a 0 0 0 0 0 0 (.slice (some ⟨G, 0, none⟩) d.length d.length) = w5 at LF ⊢
      refine hK.out _ _ ?_ (fun hHeld => ?_)
      · exact ⟨LF.base.box.c1, LF.base.box.c2⟩
      clear hK K
      try simp only [List.getElem_toArray, List.getElem_cons_succ, List.getElem_cons_zero, Act.put, List.setIfInBounds_toArray, List.set_cons_zero, List.set_cons_succ]
      refine wpAnyH_done (by kernel_rfl) ?_ _
      go_wp2_with fail
      go_meet
      exact ⟨_, rfl, J, _, _, rfl, Lib.hid LF⟩
  case rest =>
    obtain ⟨wx, rfl, J, p, c', rfl, LD⟩ := hcut
    have d1 := LD.out.base.box.c1
    go_wp2_with fail
    clear d1
    refine (l06State_any _ _).mono ?_
    rintro e w5 ⟨rfl, rfl⟩
    rw [hasState_ne HK.out, HS.out]
    go_upto_region 6 with fail
    have v0 := LD.out.var.c0
    have v1 := LD.out.var.c1
    have v2 := LD.out.var.c2
    have v3 := LD.out.var.c3
    have v4 := LD.out.var.c4
    have v5 := LD.out.var.c5
    have v6 := LD.out.var.c6
    have v7 := LD.out.var.c7
    obtain ⟨_, _, ee, -, rr⟩ := LD.out.own.get
    cases ee
    have hf := fun (W : World) (h : Rd W p d.length d) => sIsFrame_any a 0 0 0 0 0 0 p c' d W h HDM.out
    rw [HV.out] at hf
    cases v with
    | false =>
      have HF := Lib.hid hf; clear hf
      obtain ⟨rfl, rfl⟩ := HG0.out rfl
      clear HV HG0 HG1
      go_wp2_with (go_at_call 109; refine (HF.out _ rr).mono ?_; rintro e w7 ⟨rfl, b7⟩; have L7 := Lib.hid (LD.out.call b7); clear b7 v0 v1 v2 v3 v4 v5 v6 v7; have f0 : w7.frozen? ⟨w.heap.size + 1 + 1, 0, none⟩ = false := L7.out.base.res.f 0; have f1 : w7.frozen? ⟨w.heap.size + 1 + 1, 1, none⟩ = false := L7.out.base.res.f 1; have f2 : w7.frozen? ⟨w.heap.size + 1 + 1, 2, none⟩ = false := L7.out.base.res.f 2; have f3 : w7.frozen? ⟨w.heap.size + 1 + 1, 3, none⟩ = false := L7.out.base.res.f 3; have f4 : w7.frozen? ⟨w.heap.size + 1 + 1, 4, none⟩ = false := L7.out.base.res.f 4; have f5 : w7.frozen? ⟨w.heap.size + 1 + 1, 5, none⟩ = false := L7.out.base.res.f 5; have f6 : w7.frozen? ⟨w.heap.size + 1 + 1, 6, none⟩ = false := L7.out.base.res.f 6; have f7 : w7.frozen? ⟨w.heap.size + 1 + 1, 7, none⟩ = false := L7.out.base.res.f 7; have q0 : w7.cell? ⟨w.heap.size + 1 + 1, 0, none⟩ = _ := L7.out.base.res.c0; have q1 : w7.cell? ⟨w.heap.size + 1 + 1, 1, none⟩ = _ := L7.out.base.res.c1; have q2 : w7.cell? ⟨w.heap.size + 1 + 1, 2, none⟩ = _ := L7.out.base.res.c2; have q3 : w7.cell? ⟨w.heap.size + 1 + 1, 3, none⟩ = _ := L7.out.base.res.c3; have q4 : w7.cell? ⟨w.heap.size + 1 + 1, 4, none⟩ = _ := L7.out.base.res.c4; have q5 : w7.cell? ⟨w.heap.size + 1 + 1, 5, none⟩ = _ := L7.out.base.res.c5; have q6 : w7.cell? ⟨w.heap.size + 1 + 1, 6, none⟩ = _ := L7.out.base.res.c6; have q7 : w7.cell? ⟨w.heap.size + 1 + 1, 7, none⟩ = _ := L7.out.base.res.c7)
      clear q0 f0 q1 f1 q2 f2 q3 f3 q4 f4 q5 f5 q6 f6 q7 f7
      change bodyPost _ _ _ _ _ (setEight w7 (w.heap.size + 2) 0 0 0 0 0 0 0 (.slice none 0 0))
      obtain ⟨SF, BF⟩ := L7.out.base.fin 0 0 0 0 0 0 0 (.slice none 0 0)
      generalize setEight w7 (w.heap.size + 2) 0 0 0 0 0 0 0 (.slice none 0 0) = wz at SF BF ⊢
      have q0 : wz.cell? ⟨w.heap.size + 1 + 1, 0, none⟩ = _ := SF.c0
      have q1 : wz.cell? ⟨w.heap.size + 1 + 1, 1, none⟩ = _ := SF.c1
      have q2 : wz.cell? ⟨w.heap.size + 1 + 1, 2, none⟩ = _ := SF.c2
      have q3 : wz.cell? ⟨w.heap.size + 1 + 1, 3, none⟩ = _ := SF.c3
      have q4 : wz.cell? ⟨w.heap.size + 1 + 1, 4, none⟩ = _ := SF.c4
      have q5 : wz.cell? ⟨w.heap.size + 1 + 1, 5, none⟩ = _ := SF.c5
      have q6 : wz.cell? ⟨w.heap.size + 1 + 1, 6, none⟩ = _ := SF.c6
      have q7 : wz.cell? ⟨w.heap.size + 1 + 1, 7, none⟩ = _ := SF.c7
      exact bodyPost_ret (v := .tuple #[.agg #[.int .i64 0, .int .i64 0, .int .i64 0, .int .i64 0, .int .i64 0, .int .i64 0, .int .i64 0, .slice none 0 0], .int .i64 2]) (by simp [results, Try.results50, go_sem, q0, q1, q2, q3, q4, q5, q6, q7]) rfl ⟨_, _, rfl, Own.nil_, BF⟩
    | true =>
      have HF := Lib.hid hf; clear hf
      obtain ⟨rfl, rfl⟩ := HG1.out rfl
      clear HV HG0 HG1
      go_wp2_with (go_at_call 109; refine (HF.out _ rr).mono ?_; rintro e w7 ⟨rfl, b7⟩; have L7 := Lib.hid (LD.out.call b7); clear b7 v0 v1 v2 v3 v4 v5 v6 v7; have f0 : w7.frozen? ⟨w.heap.size + 1 + 1, 0, none⟩ = false := L7.out.base.res.f 0; have f1 : w7.frozen? ⟨w.heap.size + 1 + 1, 1, none⟩ = false := L7.out.base.res.f 1; have f2 : w7.frozen? ⟨w.heap.size + 1 + 1, 2, none⟩ = false := L7.out.base.res.f 2; have f3 : w7.frozen? ⟨w.heap.size + 1 + 1, 3, none⟩ = false := L7.out.base.res.f 3; have f4 : w7.frozen? ⟨w.heap.size + 1 + 1, 4, none⟩ = false := L7.out.base.res.f 4; have f5 : w7.frozen? ⟨w.heap.size + 1 + 1, 5, none⟩ = false := L7.out.base.res.f 5; have f6 : w7.frozen? ⟨w.heap.size + 1 + 1, 6, none⟩ = false := L7.out.base.res.f 6; have f7 : w7.frozen? ⟨w.heap.size + 1 + 1, 7, none⟩ = false := L7.out.base.res.f 7; have q0 : w7.cell? ⟨w.heap.size + 1 + 1, 0, none⟩ = _ := L7.out.base.res.c0; have q1 : w7.cell? ⟨w.heap.size + 1 + 1, 1, none⟩ = _ := L7.out.base.res.c1; have q2 : w7.cell? ⟨w.heap.size + 1 + 1, 2, none⟩ = _ := L7.out.base.res.c2; have q3 : w7.cell? ⟨w.heap.size + 1 + 1, 3, none⟩ = _ := L7.out.base.res.c3; have q4 : w7.cell? ⟨w.heap.size + 1 + 1, 4, none⟩ = _ := L7.out.base.res.c4; have q5 : w7.cell? ⟨w.heap.size + 1 + 1, 5, none⟩ = _ := L7.out.base.res.c5; have q6 : w7.cell? ⟨w.heap.size + 1 + 1, 6, none⟩ = _ := L7.out.base.res.c6; have q7 : w7.cell? ⟨w.heap.size + 1 + 1, 7, none⟩ = _ := L7.out.base.res.c7; have v0 := L7.out.var.c0; have v1 := L7.out.var.c1; have v2 := L7.out.var.c2; have v3 := L7.out.var.c3; have v4 := L7.out.var.c4; have v5 := L7.out.var.c5; have v6 := L7.out.var.c6; have v7 := L7.out.var.c7)
      clear q0 f0 q1 f1 q2 f2 q3 f3 q4 f4 q5 f5 q6 f6 q7 f7 v0 v1 v2 v3 v4 v5 v6 v7
      change bodyPost _ _ _ _ _ (setEight w7 (w.heap.size + 2) a 0 0 0 0 0 0 (.slice p d.length c'))
      obtain ⟨SF, BF, OF⟩ := L7.out.fin
      generalize setEight w7 (w.heap.size + 2) a 0 0 0 0 0 0 (.slice p d.length c') = wz at SF BF OF ⊢
      have q0 : wz.cell? ⟨w.heap.size + 1 + 1, 0, none⟩ = _ := SF.c0
      have q1 : wz.cell? ⟨w.heap.size + 1 + 1, 1, none⟩ = _ := SF.c1
      have q2 : wz.cell? ⟨w.heap.size + 1 + 1, 2, none⟩ = _ := SF.c2
      have q3 : wz.cell? ⟨w.heap.size + 1 + 1, 3, none⟩ = _ := SF.c3
      have q4 : wz.cell? ⟨w.heap.size + 1 + 1, 4, none⟩ = _ := SF.c4
      have q5 : wz.cell? ⟨w.heap.size + 1 + 1, 5, none⟩ = _ := SF.c5
      have q6 : wz.cell? ⟨w.heap.size + 1 + 1, 6, none⟩ = _ := SF.c6
      have q7 : wz.cell? ⟨w.heap.size + 1 + 1, 7, none⟩ = _ := SF.c7
      exact bodyPost_ret (v := .tuple #[.agg #[.int .i64 a, .int .i64 0, .int .i64 0, .int .i64 0, .int .i64 0, .int .i64 0, .int .i64 0, .slice p d.length c'], .int .i64 0]) (by simp [results, Try.results50, go_sem, q0, q1, q2, q3, q4, q5, q6, q7]) rfl ⟨_, _, rfl, OF, BF⟩
set_option maxHeartbeats 4000000 in
set_option maxRecDepth 100000 in
set_option linter.unusedVariables false in
set_option linter.unusedSimpArgs false in
theorem se21 (n a u : Int) (c : Bool) (t m r s k : Int) (d : List Int) (w : World) (hz : d = List.replicate d.length 0) (hdl : d.length ≤ 32) (hk : kindOk a = true) (hs : hasState a = true) (hd : isDesc ⟨n, a, (d.length : Int), u, c⟩ = true) (v : Bool) (hv : isFrame ⟨a, 0, t, m, r, s, k, d⟩ = v) (G : Fr) (cc : Int) (hg0 : v = false → G = Fr.zero ∧ cc = 2) (hg1 : v = true → G = ⟨a, 0, t, m, r, s, k, d⟩ ∧ cc = 0) : Calls Try.prog 50 #[.agg #[.int .i64 n, .int .i64 a, .int .i64 d.length, .int .i64 u, .bool c], .agg #[.int .i64 t, .int .i64 m, .int .i64 r, .int .i64 s, .int .i64 k]] w (GivesFB w G (.int .i64 cc)) := by
  have hi := fun (W : World) => sIsDescriptor_any n a (d.length : Int) u c W
  rw [hd] at hi
  have S0 := Lib.hid (EmpSt.start (n := n) (a := a) (z := (d.length : Int)) (u := u) (c := c) (t := t) (m := m) (r := r) (s := s) (k := k) w)
  have hdl2 : d.length ≤ 1048576 := by omega
  have HI := Lib.hid hi; have HZ := Lib.hid hz; have HDL := Lib.hid hdl; have HS := Lib.hid hs; have HV := Lib.hid hv; have HK := Lib.hid hk; have HDM := Lib.hid hdl2; have HG0 := Lib.hid hg0; have HG1 := Lib.hid hg1; clear hi hd hz hdl hs hv hk hdl2 hg0 hg1
  go_enter Try.func50, Try.ntmps50
  go_upto_region 1 with fail
  generalize (((w.alloc (.cells #[.int .i64 n, .int .i64 a, .int .i64 d.length, .int .i64 u, .bool c] 49)).alloc (.cells #[.int .i64 t, .int .i64 m, .int .i64 r, .int .i64 s, .int .i64 k] 25)).alloc (.cells #[.int .i64 0, .int .i64 0, .int .i64 0, .int .i64 0, .int .i64 0, .int .i64 0, .int .i64 0, .slice none 0 0] 28)) = w0 at S0 ⊢
  have e0 := S0.out.box.c0; have e1 := S0.out.box.c1; have e2 := S0.out.box.c2; have e3 := S0.out.box.c3; have e4 := S0.out.box.c4
  go_upto_region 3 with (go_at_call 44; refine (HI.out _).mono ?_; rintro e w1 ⟨rfl, b1⟩; have S1 := Lib.hid (S0.out.call b1); clear b1)
  clear e0 e1 e2 e3 e4 S0
  go_cut [6] (fun s6 wx => ∃ wy, wy = wx ∧ ∃ J p c', s6 = .pointer (some ⟨J, 0, none⟩) ∧ Hid (EmpLd w wy n a (d.length : Int) u c t m r s k J 0 0 0 0 0 p c' d))
  case first =>
    have S2 : Hid (EmpSt w w1.drew n a (d.length : Int) u c t m r s k) := Lib.hid (S1.out.call (Below.drew (Below.refl _ _)))
    refine wp_region_held_drew (S := fun w' => w'.cell? ⟨w.heap.size, 1, none⟩ = some (.int .i64 a) ∧ w'.cell? ⟨w.heap.size, 2, none⟩ = some (.int .i64 d.length)) (by kernel_rfl) (⟨S2.out.box.c1, S2.out.box.c2⟩) (fun hHeld => ?_)
    generalize w1.drew = w2 at S2 hHeld ⊢
    clear S1
    refine wpAnyH_take (i := 0) (v := ?_) rfl (by kernel_rfl) (by kernel_rfl) (by kernel_rfl) (fun _ _ _ h => h) (Or.inl ⟨by rfl, ?_⟩) (by assumption) ?_
    rotate_left
    · (intro w hSw; (try dsimp only at hSw); go_simp; (try with_reducible rfl))
    try simp only [List.getElem_toArray, List.getElem_cons_succ, List.getElem_cons_zero, Act.put, List.setIfInBounds_toArray, List.set_cons_zero, List.set_cons_succ]
    refine wpAnyH_take (i := 1) (v := ?_) rfl (by kernel_rfl) (by kernel_rfl) (by kernel_rfl) (fun _ _ _ h => h) (Or.inl ⟨by rfl, ?_⟩) (by assumption) ?_
    rotate_left
    · (intro w hSw; (try dsimp only at hSw); go_simp; (try with_reducible rfl))
    try simp only [List.getElem_toArray, List.getElem_cons_succ, List.getElem_cons_zero, Act.put, List.setIfInBounds_toArray, List.set_cons_zero, List.set_cons_succ]
    refine wpAnyH_take (i := 2) (v := ?_) rfl (by kernel_rfl) (by kernel_rfl) (by kernel_rfl) (fun _ _ _ h => h) (Or.inl ⟨by rfl, ?_⟩) (by assumption) ?_
    rotate_left
    · (intro w hSw; (try dsimp only at hSw); go_simp; (try with_reducible rfl))
    try simp only [List.getElem_toArray, List.getElem_cons_succ, List.getElem_cons_zero, Act.put, List.setIfInBounds_toArray, List.set_cons_zero, List.set_cons_succ]
    refine wpAnyH_take (i := 3) (v := ?_) rfl (by kernel_rfl) (by kernel_rfl) (by kernel_rfl) (fun _ _ _ h => h) (Or.inl ⟨by rfl, ?_⟩) (by assumption) ?_
    rotate_left
    · (intro w hSw; (try dsimp only at hSw); go_simp; (try with_reducible rfl))
    try simp only [List.getElem_toArray, List.getElem_cons_succ, List.getElem_cons_zero, Act.put, List.setIfInBounds_toArray, List.set_cons_zero, List.set_cons_succ]
    refine wpAnyH_ready (rs := [4, 6]) (by kernel_rfl) (by simp) (AllReadyH.cons rfl (fun K hK => ?_) (AllReadyH.cons rfl (fun K hK => ?_) AllReadyH.nil))
    · refine make_op _ (.tmp 14) (.tmp 14) rfl Try.underlying26 info64 _ _ _ _ d.length rfl rfl rfl rfl (by have := HDL.out; omega) ?_
      intro w3 o' b'
      rw [← HZ.out] at o'
      have S3 := Lib.hid (S2.out.call b')
      have lo := S2.out.res.lt
      replace o' := o'.more (base' := w.heap.size + 3) lo
      obtain ⟨G, hG⟩ : ∃ G, G = w2.heap.size := ⟨_, rfl⟩
      rw [← hG] at o' ⊢
      clear hG b' lo
      refine hK.out _ _ ?_ (fun hHeld => ?_)
      · exact ⟨S3.out.box.c1, S3.out.box.c2⟩
      clear hK K
      try simp only [List.getElem_toArray, List.getElem_cons_succ, List.getElem_cons_zero, Act.put, List.setIfInBounds_toArray, List.set_cons_zero, List.set_cons_succ]
      refine wpAnyH_take (i := 5) (v := ?_) rfl (by kernel_rfl) (by kernel_rfl) (by kernel_rfl) (fun _ _ _ h => h) (Or.inl ⟨by rfl, ?_⟩) (by assumption) ?_
      rotate_left
      · (intro w hSw; (try dsimp only at hSw); go_simp; (try with_reducible rfl))
      try simp only [List.getElem_toArray, List.getElem_cons_succ, List.getElem_cons_zero, Act.put, List.setIfInBounds_toArray, List.set_cons_zero, List.set_cons_succ]
      refine wpAnyH_ready (rs := [6]) (by kernel_rfl) (by simp) (AllReadyH.cons rfl (fun K hK => ?_) AllReadyH.nil)
      go_simp
      have ZJ := FrameAt.new (T := 28) (a := 0) (q := 0) (t := 0) (m := 0) (r := 0) (s := 0) (k := 0) (v := .slice none 0 0) w3
      have bal := Below.alloc (Below.refl w3.heap.size w3) (Nat.le_refl _) (.cells #[.int .i64 0, .int .i64 0, .int .i64 0, .int .i64 0, .int .i64 0, .int .i64 0, .int .i64 0, .slice none 0 0] 28)
      have S4 := Lib.hid (S3.out.call bal)
      have hj' : w.heap.size + 2 < w3.heap.size := S3.out.res.lt
      have hn' : ∀ i, (Value.slice (some ⟨G, 0, none⟩) d.length d.length).ownBlock = some i → i ≠ w3.heap.size := fun i hi => by have h1 := (o'.block i hi).2; omega
      replace o' := o'.below bal
      obtain ⟨J, hJ⟩ : ∃ J, J = w3.heap.size := ⟨_, rfl⟩
      rw [← hJ] at ZJ hj' hn' ⊢
      clear hJ bal
      generalize w3.alloc (.cells #[.int .i64 0, .int .i64 0, .int .i64 0, .int .i64 0, .int .i64 0, .int .i64 0, .int .i64 0, .slice none 0 0] 28) = w4 at ZJ S4 o' ⊢
      refine hK.out _ _ ?_ (fun hHeld => ?_)
      · exact ⟨S4.out.box.c1, S4.out.box.c2⟩
      clear hK K
      try simp only [List.getElem_toArray, List.getElem_cons_succ, List.getElem_cons_zero, Act.put, List.setIfInBounds_toArray, List.set_cons_zero, List.set_cons_succ]
      have rc0 := ZJ.c0
      have rc1 := ZJ.c1
      have rc2 := ZJ.c2
      have rc3 := ZJ.c3
      have rc4 := ZJ.c4
      have rc5 := ZJ.c5
      have rc6 := ZJ.c6
      have rc7 := ZJ.c7
      have rf0 := ZJ.f 0
      have rf1 := ZJ.f 1
      have rf2 := ZJ.f 2
      have rf3 := ZJ.f 3
      have rf4 := ZJ.f 4
      have rf5 := ZJ.f 5
      have rf6 := ZJ.f 6
      have rf7 := ZJ.f 7
      refine wpAnyH_ready (rs := [7]) (by kernel_rfl) (by simp) (AllReadyH.cons rfl (fun K hK => ?_) AllReadyH.nil)
      go_simp
      clear rc0 rf0 rc1 rf1 rc2 rf2 rc3 rf3 rc4 rf4 rc5 rf5 rc6 rf6 rc7 rf7
      change K _ (setEight w4 J a 0 0 0 0 0 0 (.slice (some ⟨G, 0, none⟩) d.length d.length))
      have LF := EmpLd.store S4.out ZJ o' hj' hn'
      generalize setEight w4 J a 0 0 0 0 0 0 (.slice (some ⟨G, 0, none⟩) d.length d.length) = w5 at LF ⊢
      refine hK.out _ _ ?_ (fun hHeld => ?_)
      · exact ⟨LF.base.box.c1, LF.base.box.c2⟩
      clear hK K
      try simp only [List.getElem_toArray, List.getElem_cons_succ, List.getElem_cons_zero, Act.put, List.setIfInBounds_toArray, List.set_cons_zero, List.set_cons_succ]
      refine wpAnyH_done (by kernel_rfl) ?_ _
      go_wp2_with fail
      go_meet
      exact ⟨_, rfl, J, _, _, rfl, Lib.hid LF⟩
    · go_simp
      have ZJ := FrameAt.new (T := 28) (a := 0) (q := 0) (t := 0) (m := 0) (r := 0) (s := 0) (k := 0) (v := .slice none 0 0) w2
      have bal := Below.alloc (Below.refl w2.heap.size w2) (Nat.le_refl _) (.cells #[.int .i64 0, .int .i64 0, .int .i64 0, .int .i64 0, .int .i64 0, .int .i64 0, .int .i64 0, .slice none 0 0] 28)
      have S3 := Lib.hid (S2.out.call bal)
      have hj' : w.heap.size + 2 < w2.heap.size := S2.out.res.lt
      obtain ⟨J, hJ⟩ : ∃ J, J = w2.heap.size := ⟨_, rfl⟩
      rw [← hJ] at ZJ hj' ⊢
      clear hJ bal
      generalize w2.alloc (.cells #[.int .i64 0, .int .i64 0, .int .i64 0, .int .i64 0, .int .i64 0, .int .i64 0, .int .i64 0, .slice none 0 0] 28) = w3 at ZJ S3 ⊢
      refine hK.out _ _ ?_ (fun hHeld => ?_)
      · exact ⟨S3.out.box.c1, S3.out.box.c2⟩
      clear hK K
      try simp only [List.getElem_toArray, List.getElem_cons_succ, List.getElem_cons_zero, Act.put, List.setIfInBounds_toArray, List.set_cons_zero, List.set_cons_succ]
      refine wpAnyH_ready (rs := [4]) (by kernel_rfl) (by simp) (AllReadyH.cons rfl (fun K hK => ?_) AllReadyH.nil)
      refine make_op _ (.tmp 14) (.tmp 14) rfl Try.underlying26 info64 _ _ _ _ d.length rfl rfl rfl rfl (by have := HDL.out; omega) ?_
      intro w4 o' b'
      rw [← HZ.out] at o'
      have S4 := Lib.hid (S3.out.call b')
      have lo := S3.out.res.lt
      have hn' : ∀ i, (Value.slice (some ⟨w3.heap.size, 0, none⟩) d.length d.length).ownBlock = some i → i ≠ J := fun i hi => by have h1 := (o'.block i hi).1; have h2 := ZJ.lt; omega
      replace ZJ := ZJ.below b' ZJ.lt
      replace o' := o'.more (base' := w.heap.size + 3) lo
      obtain ⟨G, hG⟩ : ∃ G, G = w3.heap.size := ⟨_, rfl⟩
      rw [← hG] at o' hn' ⊢
      clear hG b' lo
      refine hK.out _ _ ?_ (fun hHeld => ?_)
      · exact ⟨S4.out.box.c1, S4.out.box.c2⟩
      clear hK K
      try simp only [List.getElem_toArray, List.getElem_cons_succ, List.getElem_cons_zero, Act.put, List.setIfInBounds_toArray, List.set_cons_zero, List.set_cons_succ]
      refine wpAnyH_take (i := 5) (v := ?_) rfl (by kernel_rfl) (by kernel_rfl) (by kernel_rfl) (fun _ _ _ h => h) (Or.inl ⟨by rfl, ?_⟩) (by assumption) ?_
      rotate_left
      · (intro w hSw; (try dsimp only at hSw); go_simp; (try with_reducible rfl))
      try simp only [List.getElem_toArray, List.getElem_cons_succ, List.getElem_cons_zero, Act.put, List.setIfInBounds_toArray, List.set_cons_zero, List.set_cons_succ]
      have rc0 := ZJ.c0
      have rc1 := ZJ.c1
      have rc2 := ZJ.c2
      have rc3 := ZJ.c3
      have rc4 := ZJ.c4
      have rc5 := ZJ.c5
      have rc6 := ZJ.c6
      have rc7 := ZJ.c7
      have rf0 := ZJ.f 0
      have rf1 := ZJ.f 1
      have rf2 := ZJ.f 2
      have rf3 := ZJ.f 3
      have rf4 := ZJ.f 4
      have rf5 := ZJ.f 5
      have rf6 := ZJ.f 6
      have rf7 := ZJ.f 7
      refine wpAnyH_ready (rs := [7]) (by kernel_rfl) (by simp) (AllReadyH.cons rfl (fun K hK => ?_) AllReadyH.nil)
      go_simp
      clear rc0 rf0 rc1 rf1 rc2 rf2 rc3 rf3 rc4 rf4 rc5 rf5 rc6 rf6 rc7 rf7
      change K _ (setEight w4 J a 0 0 0 0 0 0 (.slice (some ⟨G, 0, none⟩) d.length d.length))
      have LF := EmpLd.store S4.out ZJ o' hj' hn'
      generalize setEight w4 J a 0 0 0 0 0 0 (.slice (some ⟨G, 0, none⟩) d.length d.length) = w5 at LF ⊢
      refine hK.out _ _ ?_ (fun hHeld => ?_)
      · exact ⟨LF.base.box.c1, LF.base.box.c2⟩
      clear hK K
      try simp only [List.getElem_toArray, List.getElem_cons_succ, List.getElem_cons_zero, Act.put, List.setIfInBounds_toArray, List.set_cons_zero, List.set_cons_succ]
      refine wpAnyH_done (by kernel_rfl) ?_ _
      go_wp2_with fail
      go_meet
      exact ⟨_, rfl, J, _, _, rfl, Lib.hid LF⟩
  case rest =>
    obtain ⟨wx, rfl, J, p, c', rfl, LD⟩ := hcut
    have d1 := LD.out.base.box.c1
    go_wp2_with fail
    clear d1
    refine (l06State_any _ _).mono ?_
    rintro e w5 ⟨rfl, rfl⟩
    rw [hasState_ne HK.out, HS.out]
    have v2 := LD.out.var.c2; have f2 := LD.out.var.f 2
    have v3 := LD.out.var.c3; have f3 := LD.out.var.f 3
    have v4 := LD.out.var.c4; have f4 := LD.out.var.f 4
    have v5 := LD.out.var.c5; have f5 := LD.out.var.f 5
    have v6 := LD.out.var.c6; have f6 := LD.out.var.f 6
    have s0 := LD.out.base.st.c0
    have s1 := LD.out.base.st.c1
    have s2 := LD.out.base.st.c2
    have s3 := LD.out.base.st.c3
    have s4 := LD.out.base.st.c4
    go_upto_region 6 with fail
    clear v2 f2 v3 f3 v4 f4 v5 f5 v6 f6 s0 s1 s2 s3 s4
    have L2 := LD.out.five t m r s k
    change Code.wp _ _ _ _ (setFiveAt wx J 2 t m r s k)
    generalize setFiveAt wx J 2 t m r s k = w6 at L2 ⊢
    clear LD
    have LD := Lib.hid L2; clear L2
    have v0 := LD.out.var.c0
    have v1 := LD.out.var.c1
    have v2 := LD.out.var.c2
    have v3 := LD.out.var.c3
    have v4 := LD.out.var.c4
    have v5 := LD.out.var.c5
    have v6 := LD.out.var.c6
    have v7 := LD.out.var.c7
    obtain ⟨_, _, ee, -, rr⟩ := LD.out.own.get
    cases ee
    have hf := fun (W : World) (h : Rd W p d.length d) => sIsFrame_any a 0 t m r s k p c' d W h HDM.out
    rw [HV.out] at hf
    cases v with
    | false =>
      have HF := Lib.hid hf; clear hf
      obtain ⟨rfl, rfl⟩ := HG0.out rfl
      clear HV HG0 HG1
      go_wp2_with (go_at_call 109; refine (HF.out _ rr).mono ?_; rintro e w7 ⟨rfl, b7⟩; have L7 := Lib.hid (LD.out.call b7); clear b7 v0 v1 v2 v3 v4 v5 v6 v7; have f0 : w7.frozen? ⟨w.heap.size + 1 + 1, 0, none⟩ = false := L7.out.base.res.f 0; have f1 : w7.frozen? ⟨w.heap.size + 1 + 1, 1, none⟩ = false := L7.out.base.res.f 1; have f2 : w7.frozen? ⟨w.heap.size + 1 + 1, 2, none⟩ = false := L7.out.base.res.f 2; have f3 : w7.frozen? ⟨w.heap.size + 1 + 1, 3, none⟩ = false := L7.out.base.res.f 3; have f4 : w7.frozen? ⟨w.heap.size + 1 + 1, 4, none⟩ = false := L7.out.base.res.f 4; have f5 : w7.frozen? ⟨w.heap.size + 1 + 1, 5, none⟩ = false := L7.out.base.res.f 5; have f6 : w7.frozen? ⟨w.heap.size + 1 + 1, 6, none⟩ = false := L7.out.base.res.f 6; have f7 : w7.frozen? ⟨w.heap.size + 1 + 1, 7, none⟩ = false := L7.out.base.res.f 7; have q0 : w7.cell? ⟨w.heap.size + 1 + 1, 0, none⟩ = _ := L7.out.base.res.c0; have q1 : w7.cell? ⟨w.heap.size + 1 + 1, 1, none⟩ = _ := L7.out.base.res.c1; have q2 : w7.cell? ⟨w.heap.size + 1 + 1, 2, none⟩ = _ := L7.out.base.res.c2; have q3 : w7.cell? ⟨w.heap.size + 1 + 1, 3, none⟩ = _ := L7.out.base.res.c3; have q4 : w7.cell? ⟨w.heap.size + 1 + 1, 4, none⟩ = _ := L7.out.base.res.c4; have q5 : w7.cell? ⟨w.heap.size + 1 + 1, 5, none⟩ = _ := L7.out.base.res.c5; have q6 : w7.cell? ⟨w.heap.size + 1 + 1, 6, none⟩ = _ := L7.out.base.res.c6; have q7 : w7.cell? ⟨w.heap.size + 1 + 1, 7, none⟩ = _ := L7.out.base.res.c7)
      clear q0 f0 q1 f1 q2 f2 q3 f3 q4 f4 q5 f5 q6 f6 q7 f7
      change bodyPost _ _ _ _ _ (setEight w7 (w.heap.size + 2) 0 0 0 0 0 0 0 (.slice none 0 0))
      obtain ⟨SF, BF⟩ := L7.out.base.fin 0 0 0 0 0 0 0 (.slice none 0 0)
      generalize setEight w7 (w.heap.size + 2) 0 0 0 0 0 0 0 (.slice none 0 0) = wz at SF BF ⊢
      have q0 : wz.cell? ⟨w.heap.size + 1 + 1, 0, none⟩ = _ := SF.c0
      have q1 : wz.cell? ⟨w.heap.size + 1 + 1, 1, none⟩ = _ := SF.c1
      have q2 : wz.cell? ⟨w.heap.size + 1 + 1, 2, none⟩ = _ := SF.c2
      have q3 : wz.cell? ⟨w.heap.size + 1 + 1, 3, none⟩ = _ := SF.c3
      have q4 : wz.cell? ⟨w.heap.size + 1 + 1, 4, none⟩ = _ := SF.c4
      have q5 : wz.cell? ⟨w.heap.size + 1 + 1, 5, none⟩ = _ := SF.c5
      have q6 : wz.cell? ⟨w.heap.size + 1 + 1, 6, none⟩ = _ := SF.c6
      have q7 : wz.cell? ⟨w.heap.size + 1 + 1, 7, none⟩ = _ := SF.c7
      exact bodyPost_ret (v := .tuple #[.agg #[.int .i64 0, .int .i64 0, .int .i64 0, .int .i64 0, .int .i64 0, .int .i64 0, .int .i64 0, .slice none 0 0], .int .i64 2]) (by simp [results, Try.results50, go_sem, q0, q1, q2, q3, q4, q5, q6, q7]) rfl ⟨_, _, rfl, Own.nil_, BF⟩
    | true =>
      have HF := Lib.hid hf; clear hf
      obtain ⟨rfl, rfl⟩ := HG1.out rfl
      clear HV HG0 HG1
      go_wp2_with (go_at_call 109; refine (HF.out _ rr).mono ?_; rintro e w7 ⟨rfl, b7⟩; have L7 := Lib.hid (LD.out.call b7); clear b7 v0 v1 v2 v3 v4 v5 v6 v7; have f0 : w7.frozen? ⟨w.heap.size + 1 + 1, 0, none⟩ = false := L7.out.base.res.f 0; have f1 : w7.frozen? ⟨w.heap.size + 1 + 1, 1, none⟩ = false := L7.out.base.res.f 1; have f2 : w7.frozen? ⟨w.heap.size + 1 + 1, 2, none⟩ = false := L7.out.base.res.f 2; have f3 : w7.frozen? ⟨w.heap.size + 1 + 1, 3, none⟩ = false := L7.out.base.res.f 3; have f4 : w7.frozen? ⟨w.heap.size + 1 + 1, 4, none⟩ = false := L7.out.base.res.f 4; have f5 : w7.frozen? ⟨w.heap.size + 1 + 1, 5, none⟩ = false := L7.out.base.res.f 5; have f6 : w7.frozen? ⟨w.heap.size + 1 + 1, 6, none⟩ = false := L7.out.base.res.f 6; have f7 : w7.frozen? ⟨w.heap.size + 1 + 1, 7, none⟩ = false := L7.out.base.res.f 7; have q0 : w7.cell? ⟨w.heap.size + 1 + 1, 0, none⟩ = _ := L7.out.base.res.c0; have q1 : w7.cell? ⟨w.heap.size + 1 + 1, 1, none⟩ = _ := L7.out.base.res.c1; have q2 : w7.cell? ⟨w.heap.size + 1 + 1, 2, none⟩ = _ := L7.out.base.res.c2; have q3 : w7.cell? ⟨w.heap.size + 1 + 1, 3, none⟩ = _ := L7.out.base.res.c3; have q4 : w7.cell? ⟨w.heap.size + 1 + 1, 4, none⟩ = _ := L7.out.base.res.c4; have q5 : w7.cell? ⟨w.heap.size + 1 + 1, 5, none⟩ = _ := L7.out.base.res.c5; have q6 : w7.cell? ⟨w.heap.size + 1 + 1, 6, none⟩ = _ := L7.out.base.res.c6; have q7 : w7.cell? ⟨w.heap.size + 1 + 1, 7, none⟩ = _ := L7.out.base.res.c7; have v0 := L7.out.var.c0; have v1 := L7.out.var.c1; have v2 := L7.out.var.c2; have v3 := L7.out.var.c3; have v4 := L7.out.var.c4; have v5 := L7.out.var.c5; have v6 := L7.out.var.c6; have v7 := L7.out.var.c7)
      clear q0 f0 q1 f1 q2 f2 q3 f3 q4 f4 q5 f5 q6 f6 q7 f7 v0 v1 v2 v3 v4 v5 v6 v7
      change bodyPost _ _ _ _ _ (setEight w7 (w.heap.size + 2) a 0 t m r s k (.slice p d.length c'))
      obtain ⟨SF, BF, OF⟩ := L7.out.fin
      generalize setEight w7 (w.heap.size + 2) a 0 t m r s k (.slice p d.length c') = wz at SF BF OF ⊢
      have q0 : wz.cell? ⟨w.heap.size + 1 + 1, 0, none⟩ = _ := SF.c0
      have q1 : wz.cell? ⟨w.heap.size + 1 + 1, 1, none⟩ = _ := SF.c1
      have q2 : wz.cell? ⟨w.heap.size + 1 + 1, 2, none⟩ = _ := SF.c2
      have q3 : wz.cell? ⟨w.heap.size + 1 + 1, 3, none⟩ = _ := SF.c3
      have q4 : wz.cell? ⟨w.heap.size + 1 + 1, 4, none⟩ = _ := SF.c4
      have q5 : wz.cell? ⟨w.heap.size + 1 + 1, 5, none⟩ = _ := SF.c5
      have q6 : wz.cell? ⟨w.heap.size + 1 + 1, 6, none⟩ = _ := SF.c6
      have q7 : wz.cell? ⟨w.heap.size + 1 + 1, 7, none⟩ = _ := SF.c7
      exact bodyPost_ret (v := .tuple #[.agg #[.int .i64 a, .int .i64 0, .int .i64 t, .int .i64 m, .int .i64 r, .int .i64 s, .int .i64 k, .slice p d.length c'], .int .i64 0]) (by simp [results, Try.results50, go_sem, q0, q1, q2, q3, q4, q5, q6, q7]) rfl ⟨_, _, rfl, OF, BF⟩
theorem sEmptyFrame_any (n a z u : Int) (c : Bool) (t m r s k : Int) (w : World) : Calls Try.prog 50 #[.agg #[.int .i64 n, .int .i64 a, .int .i64 z, .int .i64 u, .bool c], .agg #[.int .i64 t, .int .i64 m, .int .i64 r, .int .i64 s, .int .i64 k]] w (GivesFB w (emptyFrame ⟨n, a, z, u, c⟩ t m r s k).1 (.int .i64 (emptyFrame ⟨n, a, z, u, c⟩ t m r s k).2)) := by
  rcases hd : isDesc ⟨n, a, z, u, c⟩ with _ | _
  · exact se1 n a z u c t m r s k w hd
  obtain ⟨-, hk, hs, -⟩ := desc_parts hd
  simp only at hk hs
  have hz := sizeOk_le hs
  obtain ⟨d, hdd⟩ : ∃ d, d = zeros8 z := ⟨_, rfl⟩
  have hl : (d.length : Int) = z := by rw [hdd]; exact zeros_len hz.1
  have hrep : d = List.replicate d.length 0 := by rw [hdd]; unfold zeros8; rw [List.length_replicate]
  subst hl
  have hdl : d.length ≤ 32 := by omega
  rcases hst : hasState a with _ | _
  · have he : emptyOf ⟨n, a, (d.length : Int), u, c⟩ t m r s k = ⟨a, 0, 0, 0, 0, 0, 0, d⟩ := by unfold emptyOf; rw [if_neg (by simp [hst]), ← hdd]
    exact se20 n a u c t m r s k d w hrep hdl hk hst hd _ rfl _ _ (fun e => by rw [ef_2 hd (by rw [he]; exact e)]; exact ⟨rfl, rfl⟩) (fun e => by rw [ef_0 hd (by rw [he]; exact e), he]; exact ⟨rfl, rfl⟩)
  · have he : emptyOf ⟨n, a, (d.length : Int), u, c⟩ t m r s k = ⟨a, 0, t, m, r, s, k, d⟩ := by unfold emptyOf; rw [if_pos hst, ← hdd]
    exact se21 n a u c t m r s k d w hrep hdl hk hst hd _ rfl _ _ (fun e => by rw [ef_2 hd (by rw [he]; exact e)]; exact ⟨rfl, rfl⟩) (fun e => by rw [ef_0 hd (by rw [he]; exact e), he]; exact ⟨rfl, rfl⟩)
end

section
open Go.RowKit

/-- A frame that has been handed back lies in block J; its data a slice of the call's own. -/
def LaidFr (wp wy : World) (J : Nat) (a q t m r s k : Int) (d : List Int) (p8 : Option Addr) (c8 : Nat) : Prop :=
  FrameAt 28 wy J a q t m r s k (.slice p8 d.length c8) ∧ Own 2 wy wp.heap.size (.slice p8 d.length c8) d ∧ (∀ i, (Value.slice p8 d.length c8).ownBlock = some i → i ≠ J) ∧ wp.heap.size ≤ J ∧ Below wp.heap.size wp wy
theorem above8 {E base : Nat} {w : World} {v : Value} {xs : List Int} {J : Nat} (h : Own E w base v xs) (hj : J < base) : ∀ k, v.ownBlock = some k → k ≠ J := fun k hk e => by have := (h.block k hk).1; omega
theorem under8 {E base : Nat} {w : World} {v : Value} {xs : List Int} (h : Own E w base v xs) : ∀ k, v.ownBlock = some k → k ≠ w.heap.size := fun k hk e => by have := (h.block k hk).2; omega
theorem laid_fr {wp wi : World} {J : Nat} {a q t m r s k a' q' t' m' r' s' k' : Int} {v' : Value} {d : List Int} {p8 : Option Addr} {c8 : Nat} (z : FrameAt 28 wi J a' q' t' m' r' s' k' v') (o : Own 2 wi wp.heap.size (.slice p8 d.length c8) d) (hn : ∀ i, (Value.slice p8 d.length c8).ownBlock = some i → i ≠ J) (hj : wp.heap.size ≤ J) (bb : Below wp.heap.size wp wi) : LaidFr wp (setEight wi J a q t m r s k (.slice p8 d.length c8)) J a q t m r s k d p8 c8 :=
  ⟨z.eight a q t m r s k _, own_notJ o hn (grown_eightJ wi J a q t m r s k _), hn, hj, bb.trans (below_eight hj a q t m r s k _)⟩
theorem emptyFrame_data (d : Ds) (t m r s k : Int) : (emptyFrame d t m r s k).1.data.length ≤ 32 := by
  unfold emptyFrame
  split
  · rename_i hd
    split
    · have hs := sizeOk_le (desc_parts hd).2.2.1
      have hz := zeros_len hs.1
      unfold emptyOf
      split <;> (simp only; omega)
    · exact Nat.zero_le _
  · exact Nat.zero_le _
theorem state_cells8 {T b : Nat} {w : World} {t m r s k : Int} (h : StateAt T w b t m r s k) : w.cell? ⟨b, 0, none⟩ = some (.int .i64 t) ∧ w.cell? ⟨b, 1, none⟩ = some (.int .i64 m) ∧ w.cell? ⟨b, 2, none⟩ = some (.int .i64 r) ∧ w.cell? ⟨b, 3, none⟩ = some (.int .i64 s) ∧ w.cell? ⟨b, 4, none⟩ = some (.int .i64 k) := ⟨h.c0, h.c1, h.c2, h.c3, h.c4⟩
theorem ne_own {v : Value} {J : Nat} (h : ∀ i, v.ownBlock = some i → i ≠ J) : some J ≠ v.ownBlock := fun e => h J e.symm rfl
end
end Go.Proofs.Ytbdfnkhmnglpbaa
