/-
  Chapter 8: the cells of a frame, valid descriptors, the pause, on both sides.
-/
import Derived.Test.YtjejflngaelgkaaD1
import Derived.Test.YtjejflngaelgkaaFiv
import Derived.Test.YtjejflngaelgkaaOneB
import Derived.BigQuiet
namespace Go.Proofs.Ytjejflngaelgkaa
open Go.RowKit

def sealSz (a n : Int) : Int × Int := if (bodySize a n).2 = 0 then ((bodySize a n).1 + 3, 0) else (0, (bodySize a n).2)
theorem sealSz_any (a n : Int) (w : World) : Calls Try.prog 61 #[.int .i64 a, .int .i64 n] w fun e w' => e = .returned (.tuple #[.int .i64 (sealSz a n).1, .int .i64 (sealSz a n).2]) ∧ Below w.heap.size w w' := by
  have hb := fun (W : World) => bodySize_any a n W
  have hin := bodySize_in8 a n
  obtain ⟨z, c, hz⟩ : ∃ z c, bodySize a n = (z, c) := ⟨_, _, rfl⟩
  unfold sealSz
  rw [hz] at hb hin ⊢
  simp only at hb hin ⊢
  have HBS := Lib.hid hb; clear hb hz
  by_cases h0 : c = 0
  · subst h0
    rw [if_pos rfl]
    have hw : IntKind.i64.wrap (z + 3) = z + 3 := by rw [IntKind.wrap_i64]; omega
    clear hin
    go_enter Try.func61, Try.ntmps61
    go_wp2_with fail
    refine (HBS.out _).mono ?_
    rintro e w1 ⟨rfl, b1⟩
    go_wp2
    go_ret2
    exact ⟨rfl, b1⟩
  · rw [if_neg h0]
    have t1 : (c != 0) = true := by simp [h0]
    go_enter Try.func61, Try.ntmps61
    go_wp2_with fail
    refine (HBS.out _).mono ?_
    rintro e w1 ⟨rfl, b1⟩
    go_wp2
    go_ret2
    exact ⟨rfl, b1⟩
theorem cellsNeeded_any (a n : Int) (w : World) : Calls Try.prog 24 #[.int .i64 a, .int .i64 n] w fun e w' => e = .returned (.tuple #[.int .i64 (cellsNeeded a n).1, .int .i64 (cellsNeeded a n).2]) ∧ Below w.heap.size w w' := by
  have hb := fun (W : World) => sealSz_any a n W
  have hin := bodySize_in8 a n
  unfold sealSz at hb
  unfold cellsNeeded cellsOf8
  obtain ⟨z, c, hz⟩ : ∃ z c, bodySize a n = (z, c) := ⟨_, _, rfl⟩
  rw [hz] at hb hin ⊢
  simp only at hb hin ⊢
  by_cases h0 : c = 0
  · subst h0
    rw [if_pos rfl] at hb ⊢
    simp only at hb ⊢
    obtain ⟨y, hy⟩ : ∃ y, z + 3 = y := ⟨_, rfl⟩
    rw [hy] at hb ⊢
    have hw : IntKind.i64.wrap (10 * y) = 10 * y := by rw [IntKind.wrap_i64]; omega
    have hw2 : IntKind.i64.wrap (11 + 10 * y) = 11 + 10 * y := by rw [IntKind.wrap_i64]; omega
    have HBS := Lib.hid hb; clear hb hin hz hy
    go_enter Try.func24, Try.ntmps24
    go_wp2_with fail
    refine (HBS.out _).mono ?_
    rintro e w1 ⟨rfl, b1⟩
    go_wp2
    go_ret2
    exact ⟨rfl, b1⟩
  · rw [if_neg h0] at hb ⊢
    have t1 : (c != 0) = true := by simp [h0]
    have HBS := Lib.hid hb; clear hb hin hz
    go_enter Try.func24, Try.ntmps24
    go_wp2_with fail
    refine (HBS.out _).mono ?_
    rintro e w1 ⟨rfl, b1⟩
    go_wp2
    go_ret2
    exact ⟨rfl, b1⟩
set_option maxRecDepth 100000 in
theorem isDescriptor_any (n a z u : Int) (c : Bool) (w : World) : Calls Try.prog 22 #[.agg #[.int .i64 n, .int .i64 a, .int .i64 z, .int .i64 u, .bool c]] w fun e w' => e = .returned (.bool (isDesc ⟨n, a, z, u, c⟩)) ∧ Below w.heap.size w w' := by
  have hb := fun (W : World) => cellsNeeded_any a z W
  have hin := cells_in a z
  rw [isDesc_eq]
  simp only
  have hx0 : (cellsNeeded a z).2 = 0 → (cellsNeeded a z).1 = cellsOf8 a z := fun h => by rw [cells_fst h]
  generalize cellsOf8 a z = y at hin hx0 ⊢
  obtain ⟨x, k, hx⟩ : ∃ x k, cellsNeeded a z = (x, k) := ⟨_, _, rfl⟩
  rw [hx] at hb hx0 ⊢
  simp only at hb hx0 ⊢
  have HB := Lib.hid hb; clear hb hx
  by_cases hk : k = 0
  · subst hk
    obtain rfl : x = y := hx0 rfl
    have hw : IntKind.i64.wrap (x + 20) = x + 20 := by rw [IntKind.wrap_i64]; omega
    clear hin hx0
    rw [show decide ((0 : Int) = 0) = true from rfl, Bool.true_and]
    rcases hn : isNode n with _ | _
    · have HN := Lib.hid hn; clear hn
      rw [Bool.false_and]
      go_enter Try.func22, Try.ntmps22
      go_wp2_with (first | (go_at_call 24; refine (HB.out _).mono ?_; rintro e w1 ⟨rfl, b1⟩; have hd := desc_new b1; have d0 := hd.c0; have d1 := hd.c1; have d2 := hd.c2; have d3 := hd.c3; have d4 := hd.c4; clear hd) | (go_at_call 56; refine (isNode_any _ _).mono ?_; rintro e w2 ⟨rfl, rfl⟩; rw [HN.out]))
      go_ret
      exact ⟨rfl, below_box b1⟩
    · have HN := Lib.hid hn; clear hn
      rw [Bool.true_and]
      by_cases h3 : a = 3
      · subst h3
        cases c with
        | true =>
          go_enter Try.func22, Try.ntmps22
          go_wp2_with (first | (go_at_call 24; refine (HB.out _).mono ?_; rintro e w1 ⟨rfl, b1⟩; have hd := desc_new b1; have d0 := hd.c0; have d1 := hd.c1; have d2 := hd.c2; have d3 := hd.c3; have d4 := hd.c4; clear hd) | (go_at_call 56; refine (isNode_any _ _).mono ?_; rintro e w2 ⟨rfl, rfl⟩; rw [HN.out]))
          go_ret
          exact ⟨rfl, below_box b1⟩
        | false =>
          by_cases h4 : x + 20 ≤ u
          · have h4' : decide (x + 20 ≤ u) = true := decide_eq_true h4
            rw [h4']
            go_enter Try.func22, Try.ntmps22
            go_wp2_with (first | (go_at_call 24; refine (HB.out _).mono ?_; rintro e w1 ⟨rfl, b1⟩; have hd := desc_new b1; have d0 := hd.c0; have d1 := hd.c1; have d2 := hd.c2; have d3 := hd.c3; have d4 := hd.c4; clear hd) | (go_at_call 56; refine (isNode_any _ _).mono ?_; rintro e w2 ⟨rfl, rfl⟩; rw [HN.out]))
            go_ret
            exact ⟨by simp, below_box b1⟩
          · have h4' : decide (x + 20 ≤ u) = false := decide_eq_false h4
            rw [h4']
            go_enter Try.func22, Try.ntmps22
            go_wp2_with (first | (go_at_call 24; refine (HB.out _).mono ?_; rintro e w1 ⟨rfl, b1⟩; have hd := desc_new b1; have d0 := hd.c0; have d1 := hd.c1; have d2 := hd.c2; have d3 := hd.c3; have d4 := hd.c4; clear hd) | (go_at_call 56; refine (isNode_any _ _).mono ?_; rintro e w2 ⟨rfl, rfl⟩; rw [HN.out]))
            go_ret
            exact ⟨by simp, below_box b1⟩
      · have h3' : (a != 3) = true := by simp [h3]
        rw [show decide (a = 3) = false from decide_eq_false h3]
        by_cases h4 : x + 20 ≤ u
        · have h4' : decide (x + 20 ≤ u) = true := decide_eq_true h4
          rw [h4']
          go_enter Try.func22, Try.ntmps22
          go_wp2_with (first | (go_at_call 24; refine (HB.out _).mono ?_; rintro e w1 ⟨rfl, b1⟩; have hd := desc_new b1; have d0 := hd.c0; have d1 := hd.c1; have d2 := hd.c2; have d3 := hd.c3; have d4 := hd.c4; clear hd) | (go_at_call 56; refine (isNode_any _ _).mono ?_; rintro e w2 ⟨rfl, rfl⟩; rw [HN.out]))
          go_ret
          exact ⟨by simp, below_box b1⟩
        · have h4' : decide (x + 20 ≤ u) = false := decide_eq_false h4
          rw [h4']
          go_enter Try.func22, Try.ntmps22
          go_wp2_with (first | (go_at_call 24; refine (HB.out _).mono ?_; rintro e w1 ⟨rfl, b1⟩; have hd := desc_new b1; have d0 := hd.c0; have d1 := hd.c1; have d2 := hd.c2; have d3 := hd.c3; have d4 := hd.c4; clear hd) | (go_at_call 56; refine (isNode_any _ _).mono ?_; rintro e w2 ⟨rfl, rfl⟩; rw [HN.out]))
          go_ret
          exact ⟨by simp, below_box b1⟩
  · have hk' : (k == 0) = false := by simp [hk]
    clear hin hx0
    rw [show decide (k = 0) = false from decide_eq_false hk]
    go_enter Try.func22, Try.ntmps22
    go_wp2_with (first | (go_at_call 24; refine (HB.out _).mono ?_; rintro e w1 ⟨rfl, b1⟩; have hd := desc_new b1; have d0 := hd.c0; have d1 := hd.c1; have d2 := hd.c2; have d3 := hd.c3; have d4 := hd.c4; clear hd))
    go_ret
    exact ⟨rfl, below_box b1⟩
theorem pauseOf_any (n a z u : Int) (c : Bool) (w : World) : Calls Try.prog 16 #[.agg #[.int .i64 n, .int .i64 a, .int .i64 z, .int .i64 u, .bool c]] w fun e w' => e = .returned (.tuple #[.int .i64 (pauseOf ⟨n, a, z, u, c⟩).1, .int .i64 (pauseOf ⟨n, a, z, u, c⟩).2]) ∧ Below w.heap.size w w' := by
  have hi := fun (W : World) => isDescriptor_any n a z u c W
  have hb := fun (W : World) => cellsNeeded_any a z W
  unfold pauseOf
  rcases hd : isDesc ⟨n, a, z, u, c⟩ with _ | _
  · rw [hd] at hi
    rw [if_neg (by simp)]
    have HI := Lib.hid hi; clear hi hd hb
    go_enter Try.func16, Try.ntmps16
    go_wp2_with fail
    refine (HI.out _).mono ?_
    rintro e w1 ⟨rfl, b1⟩
    go_wp2
    go_ret2
    exact ⟨rfl, below_box b1⟩
  · rw [hd] at hi
    rw [if_pos rfl]
    have hin := cells_in a z
    obtain ⟨-, -, -, -, h5, h6⟩ := desc_parts hd
    simp only at h5 h6 ⊢
    rw [cells_ok hd] at hb
    simp only at hb
    generalize cellsOf8 a z = y at hb hin h5 ⊢
    have hw : IntKind.i64.wrap (u - y) = u - y := by rw [IntKind.wrap_i64]; omega
    have HI := Lib.hid hi; have HB := Lib.hid hb; clear hi hd hb hin h5 h6
    go_enter Try.func16, Try.ntmps16
    go_wp2_with fail
    refine (HI.out _).mono ?_
    rintro e w1 ⟨rfl, b1⟩
    have hd := desc_new b1
    have d1 := hd.c1; have d2 := hd.c2
    go_wp2_with fail
    refine (HB.out _).mono ?_
    rintro e w2 ⟨rfl, b2⟩
    have d3 := (hd.below b2 hd.lt).c3
    go_wp2
    go_ret2
    exact ⟨rfl, below_two (below_box b1) b2⟩

/-! ### the model -/
theorem l08Cells_any (a n : Int) (w : World) (hk : kindOk a = true) (hs : sizeOk a n = true) : Calls Try.prog 50 #[.int .i64 a, .int .i64 n] w fun e w' => e = .returned (.int .i64 (cellsOf8 a n)) ∧ w = w' := by
  have hb := fun (W : World) => l06BodySize_any a n W hk hs
  have hin := bodySize_in8 a n
  have e := bs_0 hk hs
  unfold cellsOf8
  rw [e] at hin ⊢
  simp only at hin ⊢
  obtain ⟨y, hy⟩ : ∃ y : Int, (1 + (if hasState a = true then 8 else 0) + (if hasData a = true then 1 + n else 0)) = y := ⟨_, rfl⟩
  rw [hy] at hin hb ⊢
  have hw : IntKind.i64.wrap (y + 3) = y + 3 := by rw [IntKind.wrap_i64]; omega
  have hw1 : IntKind.i64.wrap (10 * (y + 3)) = 10 * (y + 3) := by rw [IntKind.wrap_i64]; omega
  have hw2 : IntKind.i64.wrap (11 + 10 * (y + 3)) = 11 + 10 * (y + 3) := by rw [IntKind.wrap_i64]; omega
  have HB := Lib.hid hb; clear hb hin hy e
  go_enter Try.func50, Try.ntmps50
  go_wp2_with fail
  refine (HB.out _).mono ?_
  rintro e w1 ⟨rfl, rfl⟩
  go_wp2
  go_ret
  exact ⟨rfl, rfl⟩
theorem sCellsNeeded_any (a n : Int) (w : World) : Calls Try.prog 37 #[.int .i64 a, .int .i64 n] w fun e w' => e = .returned (.tuple #[.int .i64 (cellsNeeded a n).1, .int .i64 (cellsNeeded a n).2]) ∧ Below w.heap.size w w' := by
  have hb := fun (W : World) => sBodySize_any a n W
  by_cases h0 : (bodySize a n).2 = 0
  · have hks := bodySize_err.1 h0
    have hc := fun (W : World) => l08Cells_any a n W hks.1 hks.2
    unfold cellsNeeded
    rw [if_pos h0]
    simp only
    rw [h0] at hb
    generalize (bodySize a n).1 = y at hb
    generalize cellsOf8 a n = x at hc ⊢
    have HB := Lib.hid hb; have HC := Lib.hid hc; clear hb hc h0 hks
    go_enter Try.func37, Try.ntmps37
    go_wp2_with fail
    refine (HB.out _).mono ?_
    rintro e w1 ⟨rfl, rfl⟩
    go_wp2_with fail
    refine (HC.out _).mono ?_
    rintro e w1 ⟨rfl, rfl⟩
    go_wp2
    go_ret2
    exact ⟨rfl, Below.refl _ _⟩
  · unfold cellsNeeded
    rw [if_neg h0]
    simp only
    generalize (bodySize a n).1 = y at hb
    generalize (bodySize a n).2 = k at hb h0 ⊢
    have hk' : (k != 0) = true := by simp [h0]
    have HB := Lib.hid hb; clear hb
    go_enter Try.func37, Try.ntmps37
    go_wp2_with fail
    refine (HB.out _).mono ?_
    rintro e w1 ⟨rfl, rfl⟩
    go_wp2
    go_ret2
    exact ⟨rfl, Below.refl _ _⟩
theorem id_no {n a z u : Int} {c : Bool} (h : isNode n = false ∨ kindOk a = false ∨ sizeOk a z = false ∨ (a = 3 ∧ c = true)) : isDesc ⟨n, a, z, u, c⟩ = false := by
  unfold isDesc
  simp only
  rcases h with h | h | h | ⟨rfl, rfl⟩
  · rw [show inRange 0 31 n = false from h, Bool.false_and]
  · rw [h, Bool.false_and, Bool.and_false]
  · rw [h, Bool.false_and, Bool.and_false, Bool.and_false]
  · simp
theorem id_yes {n a z u : Int} {c : Bool} (h1 : isNode n = true) (h2 : kindOk a = true) (h3 : sizeOk a z = true) (h4 : (decide (a = 3) && c) = false) : isDesc ⟨n, a, z, u, c⟩ = inRange (cellsOf8 a z + 20) 1000 u := by
  unfold isDesc
  simp only
  rw [show inRange 0 31 n = true from h1, h2, h3, h4]
  rfl
set_option maxRecDepth 100000 in
theorem sIsDescriptor_any (n a z u : Int) (c : Bool) (w : World) : Calls Try.prog 23 #[.agg #[.int .i64 n, .int .i64 a, .int .i64 z, .int .i64 u, .bool c]] w fun e w' => e = .returned (.bool (isDesc ⟨n, a, z, u, c⟩)) ∧ Below w.heap.size w w' := by
  rcases hn : isNode n with _ | _
  · rw [id_no (.inl hn)]
    have HN := Lib.hid hn; clear hn
    go_enter Try.func23, Try.ntmps23
    go_wp2_with (go_at_call 57; refine (l05Node_any _ _).mono ?_; rintro e w2 ⟨rfl, rfl⟩; rw [HN.out])
    go_ret
    exact ⟨rfl, (Below.refl _ _).alloc (Nat.le_refl _) _⟩
  rcases hk : kindOk a with _ | _
  · rw [id_no (.inr (.inl hk))]
    have HN := Lib.hid hn; have HK := Lib.hid hk; clear hn hk
    go_enter Try.func23, Try.ntmps23
    go_wp2_with (first | (go_at_call 57; refine (l05Node_any _ _).mono ?_; rintro e w2 ⟨rfl, rfl⟩; rw [HN.out]) | (go_at_call 58; refine (l06Kind_any _ _).mono ?_; rintro e w2 ⟨rfl, rfl⟩; rw [HK.out]))
    go_ret
    exact ⟨rfl, (Below.refl _ _).alloc (Nat.le_refl _) _⟩
  rcases hs : sizeOk a z with _ | _
  · rw [id_no (.inr (.inr (.inl hs)))]
    have HN := Lib.hid hn; have HK := Lib.hid hk; have HS := Lib.hid hs; clear hn hk hs
    go_enter Try.func23, Try.ntmps23
    go_wp2_with (first | (go_at_call 57; refine (l05Node_any _ _).mono ?_; rintro e w2 ⟨rfl, rfl⟩; rw [HN.out]) | (go_at_call 58; refine (l06Kind_any _ _).mono ?_; rintro e w2 ⟨rfl, rfl⟩; rw [HK.out]) | (go_at_call 59; refine (l06Size_any _ _ _).mono ?_; rintro e w2 ⟨rfl, rfl⟩; rw [HS.out]))
    go_ret
    exact ⟨rfl, (Below.refl _ _).alloc (Nat.le_refl _) _⟩
  by_cases h3 : a = 3
  · subst h3
    cases c with
    | true =>
      rw [id_no (.inr (.inr (.inr ⟨rfl, rfl⟩)))]
      have HN := Lib.hid hn; have HK := Lib.hid hk; have HS := Lib.hid hs; clear hn hk hs
      go_enter Try.func23, Try.ntmps23
      go_wp2_with (first | (go_at_call 57; refine (l05Node_any _ _).mono ?_; rintro e w2 ⟨rfl, rfl⟩; rw [HN.out]) | (go_at_call 58; refine (l06Kind_any _ _).mono ?_; rintro e w2 ⟨rfl, rfl⟩; rw [HK.out]) | (go_at_call 59; refine (l06Size_any _ _ _).mono ?_; rintro e w2 ⟨rfl, rfl⟩; rw [HS.out]))
      go_ret
      exact ⟨rfl, (Below.refl _ _).alloc (Nat.le_refl _) _⟩
    | false =>
      rw [id_yes hn hk hs rfl]
      have hc := fun (W : World) => l08Cells_any 3 z W hk hs
      have hin := cells_in 3 z
      generalize cellsOf8 3 z = y at hc hin ⊢
      have hw : IntKind.i64.wrap (y + 20) = y + 20 := by rw [IntKind.wrap_i64]; omega
      have HC := Lib.hid hc; clear hc hin
      have HN := Lib.hid hn; have HK := Lib.hid hk; have HS := Lib.hid hs; clear hn hk hs
      go_enter Try.func23, Try.ntmps23
      go_wp2_with (first | (go_at_call 57; refine (l05Node_any _ _).mono ?_; rintro e w2 ⟨rfl, rfl⟩; rw [HN.out]) | (go_at_call 58; refine (l06Kind_any _ _).mono ?_; rintro e w2 ⟨rfl, rfl⟩; rw [HK.out]) | (go_at_call 59; refine (l06Size_any _ _ _).mono ?_; rintro e w2 ⟨rfl, rfl⟩; rw [HS.out]))
      go_quiet (first | (go_at_call 50; exact quiet_left (HC.out _)) | (go_at_call 60; exact quiet_left (l01In_any _ _ _ _)))
      go_wp2
      go_ret
      exact ⟨rfl, below_drewN' ((Below.refl _ _).alloc (Nat.le_refl _) _) _⟩
  · have h3' : (a == 3) = false := by simp [h3]
    rw [id_yes hn hk hs (by simp [h3])]
    have hc := fun (W : World) => l08Cells_any a z W hk hs
    have hin := cells_in a z
    generalize cellsOf8 a z = y at hc hin ⊢
    have hw : IntKind.i64.wrap (y + 20) = y + 20 := by rw [IntKind.wrap_i64]; omega
    have HC := Lib.hid hc; clear hc hin
    have HN := Lib.hid hn; have HK := Lib.hid hk; have HS := Lib.hid hs; clear hn hk hs
    go_enter Try.func23, Try.ntmps23
    go_wp2_with (first | (go_at_call 57; refine (l05Node_any _ _).mono ?_; rintro e w2 ⟨rfl, rfl⟩; rw [HN.out]) | (go_at_call 58; refine (l06Kind_any _ _).mono ?_; rintro e w2 ⟨rfl, rfl⟩; rw [HK.out]) | (go_at_call 59; refine (l06Size_any _ _ _).mono ?_; rintro e w2 ⟨rfl, rfl⟩; rw [HS.out]))
    go_quiet (first | (go_at_call 50; exact quiet_left (HC.out _)) | (go_at_call 60; exact quiet_left (l01In_any _ _ _ _)))
    go_wp2
    go_ret
    exact ⟨rfl, below_drewN' ((Below.refl _ _).alloc (Nat.le_refl _) _) _⟩
theorem sPauseOf_any (n a z u : Int) (c : Bool) (w : World) : Calls Try.prog 17 #[.agg #[.int .i64 n, .int .i64 a, .int .i64 z, .int .i64 u, .bool c]] w fun e w' => e = .returned (.tuple #[.int .i64 (pauseOf ⟨n, a, z, u, c⟩).1, .int .i64 (pauseOf ⟨n, a, z, u, c⟩).2]) ∧ Below w.heap.size w w' := by
  have hi := fun (W : World) => sIsDescriptor_any n a z u c W
  unfold pauseOf
  rcases hd : isDesc ⟨n, a, z, u, c⟩ with _ | _
  · rw [hd] at hi
    rw [if_neg (by simp)]
    have HI := Lib.hid hi; clear hi hd
    go_enter Try.func17, Try.ntmps17
    go_wp2_with fail
    refine (HI.out _).mono ?_
    rintro e w1 ⟨rfl, b1⟩
    go_wp2
    go_ret2
    exact ⟨rfl, below_box b1⟩
  · rw [hd] at hi
    rw [if_pos rfl]
    have hin := cells_in a z
    obtain ⟨-, hk, hs, -, h5, h6⟩ := desc_parts hd
    simp only at hk hs h5 h6 ⊢
    have hb := fun (W : World) => l08Cells_any a z W hk hs
    generalize cellsOf8 a z = y at hb hin h5 ⊢
    have hw : IntKind.i64.wrap (u - y) = u - y := by rw [IntKind.wrap_i64]; omega
    have HI := Lib.hid hi; have HB := Lib.hid hb; clear hi hd hb hin h5 h6 hk hs
    go_enter Try.func17, Try.ntmps17
    go_wp2_with fail
    refine (HI.out _).mono ?_
    rintro e w1 ⟨rfl, b1⟩
    have hd := desc_new b1
    have d1 := hd.c1; have d2 := hd.c2; have d3 := hd.c3
    clear hd
    go_wp2
    go_quiet ((go_at_call 50; exact quiet_left (HB.out _)))
    go_wp2
    go_ret2
    exact ⟨rfl, below_drewN' (below_box b1) _⟩
end Go.Proofs.Ytjejflngaelgkaa
