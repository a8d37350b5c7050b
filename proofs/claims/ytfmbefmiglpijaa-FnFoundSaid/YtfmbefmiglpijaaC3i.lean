/-
  Chapter 3: LeastWeight and FirstMissed on both sides.
-/
import Derived.Test.YtfmbefmiglpijaaC3h
import Derived.Lib.SliceRun
namespace Go.Proofs.Ytfmbefmiglpijaa
open Go.RowKit

theorem spanCode_1 {wd p span : Int} (h : isCrc wd p = false) : spanCode wd p span = 1 := by unfold spanCode; rw [if_pos h]
theorem spanCode_2 {wd p span : Int} (h : isCrc wd p = true) (h2 : ¬ (1 ≤ span ∧ span ≤ 64)) : spanCode wd p span = 2 := by unfold spanCode; rw [if_neg (by simp [h]), if_pos h2]
theorem spanCode_0 {wd p span : Int} (h : isCrc wd p = true) (h2 : 1 ≤ span ∧ span ≤ 64) : spanCode wd p span = 0 := by unfold spanCode; rw [if_neg (by simp [h]), if_neg (by simp; omega)]
theorem spanCode_get {wd p span : Int} (h : spanCode wd p span = 0) : isCrc wd p = true ∧ 1 ≤ span ∧ span ≤ 64 := by
  rcases hI : isCrc wd p with _ | _
  · rw [spanCode_1 hI] at h; omega
  · by_cases h2 : 1 ≤ span ∧ span ≤ 64
    · exact ⟨rfl, h2⟩
    · rw [spanCode_2 hI h2] at h; omega
/-- impl.spanError. -/
theorem spanError_any (wd p span : Int) (w : World) :
    Calls Try.prog 59 #[.agg #[.int .i64 wd, .int .i64 p], .int .i64 span] w fun e w' => e = .returned (.int .i64 (spanCode wd p span)) ∧ Below w.heap.size w w' := by
  have hb0 : Below w.heap.size w (w.alloc (.cells #[.int .i64 wd, .int .i64 p] 25)) := (Below.refl _ _).alloc (Nat.le_refl _) _
  have HB := Lib.hid hb0; clear hb0
  rcases hI : isCrc wd p with _ | _
  · rw [spanCode_1 hI]
    have HI := Lib.hid hI; clear hI
    go_enter Try.func59, Try.ntmps59
    go_wp2_with fail
    refine (isCrc_any _ _ _).mono ?_
    rintro e w1 ⟨rfl, b1⟩
    rw [HI.out]
    go_wp2
    go_ret
    exact ⟨rfl, below_two HB.out b1⟩
  · by_cases h1 : span < 1
    · rw [spanCode_2 hI (by omega)]
      have HI := Lib.hid hI; clear hI
      go_enter Try.func59, Try.ntmps59
      go_wp2_with fail
      refine (isCrc_any _ _ _).mono ?_
      rintro e w1 ⟨rfl, b1⟩
      rw [HI.out]
      go_wp2
      go_ret
      exact ⟨rfl, below_two HB.out b1⟩
    · by_cases h2 : 64 < span
      · rw [spanCode_2 hI (by omega)]
        have HI := Lib.hid hI; clear hI
        go_enter Try.func59, Try.ntmps59
        go_wp2_with fail
        refine (isCrc_any _ _ _).mono ?_
        rintro e w1 ⟨rfl, b1⟩
        rw [HI.out]
        go_wp2
        go_ret
        exact ⟨rfl, below_two HB.out b1⟩
      · rw [spanCode_0 hI (by omega)]
        have HI := Lib.hid hI; clear hI
        go_enter Try.func59, Try.ntmps59
        go_wp2_with fail
        refine (isCrc_any _ _ _).mono ?_
        rintro e w1 ⟨rfl, b1⟩
        rw [HI.out]
        go_wp2
        go_ret
        exact ⟨rfl, below_two HB.out b1⟩
/-- spec.l03Span. -/
theorem sSpan_any (wd p span : Int) (w : World) :
    Calls Try.prog 61 #[.agg #[.int .i64 wd, .int .i64 p], .int .i64 span] w fun e w' => e = .returned (.int .i64 (spanCode wd p span)) ∧ Below w.heap.size w w' := by
  have hb0 : Below w.heap.size w (w.alloc (.cells #[.int .i64 wd, .int .i64 p] 25)) := (Below.refl _ _).alloc (Nat.le_refl _) _
  have HB := Lib.hid hb0; clear hb0
  rcases hI : isCrc wd p with _ | _
  · rw [spanCode_1 hI]
    have HI := Lib.hid hI; clear hI
    go_enter Try.func61, Try.ntmps61
    go_wp2_with fail
    refine (sIsCrc_any _ _ _).mono ?_
    rintro e w1 ⟨rfl, b1⟩
    rw [HI.out]
    go_wp2
    go_ret
    exact ⟨rfl, below_two HB.out b1⟩
  · by_cases h1 : 1 ≤ span ∧ span ≤ 64
    · rw [spanCode_0 hI h1]
      have HI := Lib.hid hI; clear hI
      go_enter Try.func61, Try.ntmps61
      go_wp2_with fail
      refine (sIsCrc_any _ _ _).mono ?_
      rintro e w1 ⟨rfl, b1⟩
      rw [HI.out]
      go_wp2_with fail
      refine (l01In_yes _ _ _ _ h1.1 h1.2).mono ?_
      rintro e w' ⟨rfl, rfl⟩
      go_wp2
      go_ret
      exact ⟨rfl, below_two HB.out b1⟩
    · rw [spanCode_2 hI h1]
      have h3 : span < 1 ∨ 64 < span := by omega
      have H3 := Lib.hid h3; clear h3 h1
      have HI := Lib.hid hI; clear hI
      go_enter Try.func61, Try.ntmps61
      go_wp2_with fail
      refine (sIsCrc_any _ _ _).mono ?_
      rintro e w1 ⟨rfl, b1⟩
      rw [HI.out]
      go_wp2_with fail
      refine (l01In_no _ _ _ _ H3.out).mono ?_
      rintro e w' ⟨rfl, rfl⟩
      go_wp2
      go_ret
      exact ⟨rfl, below_two HB.out b1⟩

theorem fo_code {wd p span : Int} (h : spanCode wd p span ≠ 0) : firstOf wd p span = ([], spanCode wd p span) := by unfold firstOf; rw [if_pos h]
theorem fo_4 {W n : Nat} {g : BitVec W} (h : spanCode (W : Int) (g.toNat : Int) (n : Int) = 0) (h2 : firstMissed g n = []) : firstOf (W : Int) (g.toNat : Int) (n : Int) = ([], 4) := by
  unfold firstOf
  rw [if_neg (by simp [h]), Int.toNat_natCast, Int.toNat_natCast, Int.toNat_natCast, show BitVec.ofNat W g.toNat = g from by simp, if_pos h2]
theorem fo_0 {W n : Nat} {g : BitVec W} (h : spanCode (W : Int) (g.toNat : Int) (n : Int) = 0) (h2 : firstMissed g n ≠ []) : firstOf (W : Int) (g.toNat : Int) (n : Int) = (firstMissed g n, 0) := by
  unfold firstOf
  rw [if_neg (by simp [h]), Int.toNat_natCast, Int.toNat_natCast, Int.toNat_natCast, show BitVec.ofNat W g.toNat = g from by simp, if_neg h2]
theorem lo_code {wd p span : Int} (h : spanCode wd p span ≠ 0) : leastOf wd p span = (0, spanCode wd p span) := by unfold leastOf; rw [if_pos h]
theorem lo_4 {W n : Nat} {g : BitVec W} (h : spanCode (W : Int) (g.toNat : Int) (n : Int) = 0) (h2 : firstMissed g n = []) : leastOf (W : Int) (g.toNat : Int) (n : Int) = (4, 0) := by
  unfold leastOf leastWeight
  rw [if_neg (by simp [h]), Int.toNat_natCast, Int.toNat_natCast, Int.toNat_natCast, show BitVec.ofNat W g.toNat = g from by simp, h2]; rfl
theorem lo_0 {W n : Nat} {g : BitVec W} (h : spanCode (W : Int) (g.toNat : Int) (n : Int) = 0) (h2 : firstMissed g n ≠ []) : leastOf (W : Int) (g.toNat : Int) (n : Int) = (((firstMissed g n).length : Int), 0) := by
  unfold leastOf leastWeight
  rw [if_neg (by simp [h]), Int.toNat_natCast, Int.toNat_natCast, Int.toNat_natCast, show BitVec.ofNat W g.toNat = g from by simp, if_neg (by simpa using h2)]
theorem firstMissed_len {W : Nat} {g : BitVec W} (hg : g.getLsbD 0 = true) (n : Nat) : (firstMissed g n).length ≤ 3 := by
  rcases firstMissed_cases hg n with ⟨i, k, -, -, h, -⟩ | ⟨-, i, k, j, -, -, -, h, -⟩ | ⟨-, -, h⟩ <;> rw [h] <;> simp
theorem firstOf_len (wd p span : Int) : (firstOf wd p span).1.length ≤ 3 := by
  by_cases h : spanCode wd p span = 0
  · obtain ⟨hI, hs⟩ := spanCode_get h
    obtain ⟨W, g, rfl, h1, h2, rfl, hg⟩ := isCrc_get hI
    obtain ⟨n, rfl⟩ := Int.eq_ofNat_of_zero_le (show 0 ≤ span by omega)
    by_cases hf : firstMissed g n = []
    · rw [fo_4 h hf]; simp
    · rw [fo_0 h hf]; exact firstMissed_len hg n
  · rw [fo_code h]; simp

/-- spec.LeastWeight. -/
theorem sLeastWeight_any (wd p span : Int) (w : World) :
    Calls Try.prog 24 #[.agg #[.int .i64 wd, .int .i64 p], .int .i64 span] w fun e w' => e = .returned (.tuple #[.int .i64 (leastOf wd p span).1, .int .i64 (leastOf wd p span).2]) ∧ Below w.heap.size w w' := by
  have hb0 : Below w.heap.size w (w.alloc (.cells #[.int .i64 wd, .int .i64 p] 25)) := (Below.refl _ _).alloc (Nat.le_refl _) _
  have HB := Lib.hid hb0; clear hb0
  have hsc := struct_cells (w := w) wd p 25
  by_cases hs : spanCode wd p span = 0
  · obtain ⟨hI, hr1, hr2⟩ := spanCode_get hs
    obtain ⟨W, g, rfl, h1, h2, rfl, hg⟩ := isCrc_get hI
    obtain ⟨n, rfl⟩ := Int.eq_ofNat_of_zero_le (show 0 ≤ span by omega)
    have hn : n ≤ 64 := by omega
    clear hI hr1 hr2
    obtain ⟨hsc0, hsc1⟩ := hsc
    by_cases hf : firstMissed g n = []
    · rw [lo_4 hs hf]
      have HS := Lib.hid hs; clear hs
      have HF := Lib.hid hf; clear hf
      go_enter Try.func24, Try.ntmps24
      go_wp2_with fail
      refine (sSpan_any _ _ _ _).mono ?_
      rintro e w1 ⟨rfl, b1⟩
      rw [HS.out]
      have hc0 := (b1.cell (p := ⟨w.heap.size, 0, none⟩) (World.block_lt_of_cell? _ _ hsc0)).trans hsc0
      have hc1 := (b1.cell (p := ⟨w.heap.size, 1, none⟩) (World.block_lt_of_cell? _ _ hsc1)).trans hsc1
      have B2 := Lib.hid (below_two HB.out b1)
      clear hsc0 hsc1 b1
      go_wp2_with fail
      clear hc0 hc1
      refine (sFirst_any W n g _ h1 h2 hg hn).mono ?_
      rintro e w3 m3
      rw [HF.out] at m3
      obtain ⟨p3, c3, rfl, -, -, b3⟩ := m3.get
      go_wp2
      go_ret2
      exact ⟨rfl, below_two B2.out b3⟩
    · rw [lo_0 hs hf]
      have hl : ((firstMissed g n).length : Int) ≠ 0 := fun e => hf (List.length_eq_zero_iff.1 (by omega))
      have hl3 := firstMissed_len hg n
      have HS := Lib.hid hs; clear hs hf
      obtain ⟨R, hR⟩ : ∃ R, R = firstMissed g n := ⟨_, rfl⟩
      rw [← hR] at hl hl3 ⊢
      have HR := Lib.hid hR; clear hR
      have t1 : ((R.length : Int) == 0) = false := by simpa using hl
      clear hl
      go_enter Try.func24, Try.ntmps24
      go_wp2_with fail
      refine (sSpan_any _ _ _ _).mono ?_
      rintro e w1 ⟨rfl, b1⟩
      rw [HS.out]
      have hc0 := (b1.cell (p := ⟨w.heap.size, 0, none⟩) (World.block_lt_of_cell? _ _ hsc0)).trans hsc0
      have hc1 := (b1.cell (p := ⟨w.heap.size, 1, none⟩) (World.block_lt_of_cell? _ _ hsc1)).trans hsc1
      have B2 := Lib.hid (below_two HB.out b1)
      clear hsc0 hsc1 b1
      go_wp2_with fail
      clear hc0 hc1
      refine (sFirst_any W n g _ h1 h2 hg hn).mono ?_
      rintro e w3 m3
      rw [← HR.out] at m3
      obtain ⟨p3, c3, rfl, -, -, b3⟩ := m3.get
      go_wp2
      go_ret2
      exact ⟨rfl, below_two B2.out b3⟩
  · rw [lo_code hs]
    have t2 : (spanCode wd p span != 0) = true := by simpa using hs
    obtain ⟨q, hq⟩ : ∃ q, q = spanCode wd p span := ⟨_, rfl⟩
    rw [← hq] at t2 ⊢
    have HQ := Lib.hid hq; clear hq hs hsc
    go_enter Try.func24, Try.ntmps24
    go_wp2_with fail
    refine (sSpan_any _ _ _ _).mono ?_
    rintro e w1 ⟨rfl, b1⟩
    rw [← HQ.out]
    go_wp2
    go_ret2
    exact ⟨rfl, below_two HB.out b1⟩
/-- spec.FirstMissed. -/
theorem sFirstMissed_any (wd p span : Int) (w : World) :
    Calls Try.prog 22 #[.agg #[.int .i64 wd, .int .i64 p], .int .i64 span] w (Makes2 2 w (firstOf wd p span).1 (firstOf wd p span).2) := by
  have hb0 : Below w.heap.size w (w.alloc (.cells #[.int .i64 wd, .int .i64 p] 25)) := (Below.refl _ _).alloc (Nat.le_refl _) _
  have HB := Lib.hid hb0; clear hb0
  have hsc := struct_cells (w := w) wd p 25
  by_cases hs : spanCode wd p span = 0
  · obtain ⟨hI, hr1, hr2⟩ := spanCode_get hs
    obtain ⟨W, g, rfl, h1, h2, rfl, hg⟩ := isCrc_get hI
    obtain ⟨n, rfl⟩ := Int.eq_ofNat_of_zero_le (show 0 ≤ span by omega)
    have hn : n ≤ 64 := by omega
    clear hI hr1 hr2
    obtain ⟨hsc0, hsc1⟩ := hsc
    by_cases hf : firstMissed g n = []
    · rw [fo_4 hs hf]
      have HS := Lib.hid hs; clear hs
      have HF := Lib.hid hf; clear hf
      go_enter Try.func22, Try.ntmps22
      go_wp2_with fail
      refine (sSpan_any _ _ _ _).mono ?_
      rintro e w1 ⟨rfl, b1⟩
      rw [HS.out]
      have hc0 := (b1.cell (p := ⟨w.heap.size, 0, none⟩) (World.block_lt_of_cell? _ _ hsc0)).trans hsc0
      have hc1 := (b1.cell (p := ⟨w.heap.size, 1, none⟩) (World.block_lt_of_cell? _ _ hsc1)).trans hsc1
      have B2 := Lib.hid (below_two HB.out b1)
      clear hsc0 hsc1 b1
      go_wp2_with fail
      clear hc0 hc1
      refine (sFirst_any W n g _ h1 h2 hg hn).mono ?_
      rintro e w3 m3
      rw [HF.out] at m3
      obtain ⟨p3, c3, rfl, -, -, b3⟩ := m3.get
      go_wp2
      go_ret2
      exact ⟨_, rfl, Own.nil_, below_two B2.out b3⟩
    · rw [fo_0 hs hf]
      have hl : ((firstMissed g n).length : Int) ≠ 0 := fun e => hf (List.length_eq_zero_iff.1 (by omega))
      have hl3 := firstMissed_len hg n
      have HS := Lib.hid hs; clear hs hf
      obtain ⟨R, hR⟩ : ∃ R, R = firstMissed g n := ⟨_, rfl⟩
      rw [← hR] at hl hl3 ⊢
      have HR := Lib.hid hR; clear hR
      have t1 : ((R.length : Int) == 0) = false := by simpa using hl
      clear hl
      go_enter Try.func22, Try.ntmps22
      go_wp2_with fail
      refine (sSpan_any _ _ _ _).mono ?_
      rintro e w1 ⟨rfl, b1⟩
      rw [HS.out]
      have hc0 := (b1.cell (p := ⟨w.heap.size, 0, none⟩) (World.block_lt_of_cell? _ _ hsc0)).trans hsc0
      have hc1 := (b1.cell (p := ⟨w.heap.size, 1, none⟩) (World.block_lt_of_cell? _ _ hsc1)).trans hsc1
      have B2 := Lib.hid (below_two HB.out b1)
      clear hsc0 hsc1 b1
      go_wp2_with fail
      clear hc0 hc1
      refine (sFirst_any W n g _ h1 h2 hg hn).mono ?_
      rintro e w3 m3
      rw [← HR.out] at m3
      obtain ⟨p3, c3, rfl, o3, -, b3⟩ := m3.get
      have O3 := Lib.hid (o3.more B2.out.size); clear o3
      go_wp2
      go_ret2
      exact ⟨_, rfl, O3.out, below_two B2.out b3⟩
  · rw [fo_code hs]
    have t2 : (spanCode wd p span != 0) = true := by simpa using hs
    obtain ⟨q, hq⟩ : ∃ q, q = spanCode wd p span := ⟨_, rfl⟩
    rw [← hq] at t2 ⊢
    have HQ := Lib.hid hq; clear hq hs hsc
    go_enter Try.func22, Try.ntmps22
    go_wp2_with fail
    refine (sSpan_any _ _ _ _).mono ?_
    rintro e w1 ⟨rfl, b1⟩
    rw [← HQ.out]
    go_wp2
    go_ret2
    exact ⟨_, rfl, Own.nil_, below_two HB.out b1⟩
/-- impl.LeastWeight. -/
theorem leastWeight_any (wd p span : Int) (w : World) :
    Calls Try.prog 23 #[.agg #[.int .i64 wd, .int .i64 p], .int .i64 span] w fun e w' => e = .returned (.tuple #[.int .i64 (leastOf wd p span).1, .int .i64 (leastOf wd p span).2]) ∧ Below w.heap.size w w' := by
  have hb0 : Below w.heap.size w (w.alloc (.cells #[.int .i64 wd, .int .i64 p] 25)) := (Below.refl _ _).alloc (Nat.le_refl _) _
  have HB := Lib.hid hb0; clear hb0
  have hsc := struct_cells (w := w) wd p 25
  by_cases hs : spanCode wd p span = 0
  · obtain ⟨hI, hr1, hr2⟩ := spanCode_get hs
    obtain ⟨W, g, rfl, h1, h2, rfl, hg⟩ := isCrc_get hI
    obtain ⟨n, rfl⟩ := Int.eq_ofNat_of_zero_le (show 0 ≤ span by omega)
    have hn : n ≤ 64 := by omega
    clear hI hr1 hr2
    obtain ⟨hsc0, hsc1⟩ := hsc
    by_cases hf : firstMissed g n = []
    · rw [lo_4 hs hf]
      have HS := Lib.hid hs; clear hs
      have HF := Lib.hid hf; clear hf
      go_enter Try.func23, Try.ntmps23
      go_wp2_with fail
      refine (spanError_any _ _ _ _).mono ?_
      rintro e w1 ⟨rfl, b1⟩
      rw [HS.out]
      have hc0 := (b1.cell (p := ⟨w.heap.size, 0, none⟩) (World.block_lt_of_cell? _ _ hsc0)).trans hsc0
      have hc1 := (b1.cell (p := ⟨w.heap.size, 1, none⟩) (World.block_lt_of_cell? _ _ hsc1)).trans hsc1
      have B2 := Lib.hid (below_two HB.out b1)
      clear hsc0 hsc1 b1
      go_wp2_with fail
      clear hc0 hc1
      refine (ones_any W n g _ h1 h2 hg hn).mono ?_
      rintro e w3 ⟨v3, rfl, -, b3, hv3⟩
      obtain rfl := hv3 HF.out
      have hnil := fun w => Lib.run_eql_slice_nil (P := Try.prog) w 26 2 none 0 0 0 0 Try.underlying26
      clear hv3
      go_wp2
      go_ret2
      exact ⟨rfl, below_two B2.out b3⟩
    · rw [lo_0 hs hf]
      have hl : ((firstMissed g n).length : Int) ≠ 0 := fun e => hf (List.length_eq_zero_iff.1 (by omega))
      have hl3 := firstMissed_len hg n
      have HS := Lib.hid hs; clear hs hf
      obtain ⟨R, hR⟩ : ∃ R, R = firstMissed g n := ⟨_, rfl⟩
      rw [← hR] at hl hl3 ⊢
      have HR := Lib.hid hR; clear hR
      have hl0 : 0 < R.length := by omega
      have HL := Lib.hid hl0; clear hl hl0
      go_enter Try.func23, Try.ntmps23
      go_wp2_with fail
      refine (spanError_any _ _ _ _).mono ?_
      rintro e w1 ⟨rfl, b1⟩
      rw [HS.out]
      have hc0 := (b1.cell (p := ⟨w.heap.size, 0, none⟩) (World.block_lt_of_cell? _ _ hsc0)).trans hsc0
      have hc1 := (b1.cell (p := ⟨w.heap.size, 1, none⟩) (World.block_lt_of_cell? _ _ hsc1)).trans hsc1
      have B2 := Lib.hid (below_two HB.out b1)
      clear hsc0 hsc1 b1
      go_wp2_with fail
      clear hc0 hc1
      refine (ones_any W n g _ h1 h2 hg hn).mono ?_
      rintro e w3 ⟨v3, rfl, o3, b3, -⟩
      rw [← HR.out] at o3
      obtain ⟨p3, c3, rfl, o3, r3⟩ := o3.get
      obtain ⟨b, off, rfl, -⟩ := r3.here HL.out
      have hnil := fun w => Lib.run_eql_slice_nil (P := Try.prog) w 26 2 (some ⟨b, off, none⟩) R.length c3 0 0 Try.underlying26
      clear o3 r3
      go_wp2
      go_ret2
      exact ⟨rfl, below_two B2.out b3⟩
  · rw [lo_code hs]
    have t2 : (spanCode wd p span != 0) = true := by simpa using hs
    obtain ⟨q, hq⟩ : ∃ q, q = spanCode wd p span := ⟨_, rfl⟩
    rw [← hq] at t2 ⊢
    have HQ := Lib.hid hq; clear hq hs hsc
    go_enter Try.func23, Try.ntmps23
    go_wp2_with fail
    refine (spanError_any _ _ _ _).mono ?_
    rintro e w1 ⟨rfl, b1⟩
    rw [← HQ.out]
    go_wp2
    go_ret2
    exact ⟨rfl, below_two HB.out b1⟩
/-- impl.FirstMissed. -/
theorem firstMissed_any (wd p span : Int) (w : World) :
    Calls Try.prog 21 #[.agg #[.int .i64 wd, .int .i64 p], .int .i64 span] w (Makes2 2 w (firstOf wd p span).1 (firstOf wd p span).2) := by
  have hb0 : Below w.heap.size w (w.alloc (.cells #[.int .i64 wd, .int .i64 p] 25)) := (Below.refl _ _).alloc (Nat.le_refl _) _
  have HB := Lib.hid hb0; clear hb0
  have hsc := struct_cells (w := w) wd p 25
  by_cases hs : spanCode wd p span = 0
  · obtain ⟨hI, hr1, hr2⟩ := spanCode_get hs
    obtain ⟨W, g, rfl, h1, h2, rfl, hg⟩ := isCrc_get hI
    obtain ⟨n, rfl⟩ := Int.eq_ofNat_of_zero_le (show 0 ≤ span by omega)
    have hn : n ≤ 64 := by omega
    clear hI hr1 hr2
    obtain ⟨hsc0, hsc1⟩ := hsc
    by_cases hf : firstMissed g n = []
    · rw [fo_4 hs hf]
      have HS := Lib.hid hs; clear hs
      have HF := Lib.hid hf; clear hf
      go_enter Try.func21, Try.ntmps21
      go_wp2_with fail
      refine (spanError_any _ _ _ _).mono ?_
      rintro e w1 ⟨rfl, b1⟩
      rw [HS.out]
      have hc0 := (b1.cell (p := ⟨w.heap.size, 0, none⟩) (World.block_lt_of_cell? _ _ hsc0)).trans hsc0
      have hc1 := (b1.cell (p := ⟨w.heap.size, 1, none⟩) (World.block_lt_of_cell? _ _ hsc1)).trans hsc1
      have B2 := Lib.hid (below_two HB.out b1)
      clear hsc0 hsc1 b1
      go_wp2_with fail
      clear hc0 hc1
      refine (ones_any W n g _ h1 h2 hg hn).mono ?_
      rintro e w3 ⟨v3, rfl, -, b3, hv3⟩
      obtain rfl := hv3 HF.out
      have hnil := fun w => Lib.run_eql_slice_nil (P := Try.prog) w 26 2 none 0 0 0 0 Try.underlying26
      clear hv3
      go_wp2
      go_ret2
      exact ⟨_, rfl, Own.nil_, below_two B2.out b3⟩
    · rw [fo_0 hs hf]
      have hl : ((firstMissed g n).length : Int) ≠ 0 := fun e => hf (List.length_eq_zero_iff.1 (by omega))
      have hl3 := firstMissed_len hg n
      have HS := Lib.hid hs; clear hs hf
      obtain ⟨R, hR⟩ : ∃ R, R = firstMissed g n := ⟨_, rfl⟩
      rw [← hR] at hl hl3 ⊢
      have HR := Lib.hid hR; clear hR
      have hl0 : 0 < R.length := by omega
      have HL := Lib.hid hl0; clear hl hl0
      go_enter Try.func21, Try.ntmps21
      go_wp2_with fail
      refine (spanError_any _ _ _ _).mono ?_
      rintro e w1 ⟨rfl, b1⟩
      rw [HS.out]
      have hc0 := (b1.cell (p := ⟨w.heap.size, 0, none⟩) (World.block_lt_of_cell? _ _ hsc0)).trans hsc0
      have hc1 := (b1.cell (p := ⟨w.heap.size, 1, none⟩) (World.block_lt_of_cell? _ _ hsc1)).trans hsc1
      have B2 := Lib.hid (below_two HB.out b1)
      clear hsc0 hsc1 b1
      go_wp2_with fail
      clear hc0 hc1
      refine (ones_any W n g _ h1 h2 hg hn).mono ?_
      rintro e w3 ⟨v3, rfl, o3, b3, -⟩
      rw [← HR.out] at o3
      obtain ⟨p3, c3, rfl, o3, r3⟩ := o3.get
      obtain ⟨b, off, rfl, -⟩ := r3.here HL.out
      have hnil := fun w => Lib.run_eql_slice_nil (P := Try.prog) w 26 2 (some ⟨b, off, none⟩) R.length c3 0 0 Try.underlying26
      clear r3
      have O3 := Lib.hid (o3.more B2.out.size); clear o3
      go_wp2
      go_ret2
      exact ⟨_, rfl, O3.out, below_two B2.out b3⟩
  · rw [fo_code hs]
    have t2 : (spanCode wd p span != 0) = true := by simpa using hs
    obtain ⟨q, hq⟩ : ∃ q, q = spanCode wd p span := ⟨_, rfl⟩
    rw [← hq] at t2 ⊢
    have HQ := Lib.hid hq; clear hq hs hsc
    go_enter Try.func21, Try.ntmps21
    go_wp2_with fail
    refine (spanError_any _ _ _ _).mono ?_
    rintro e w1 ⟨rfl, b1⟩
    rw [← HQ.out]
    go_wp2
    go_ret2
    exact ⟨_, rfl, Own.nil_, below_two HB.out b1⟩
end Go.Proofs.Ytfmbefmiglpijaa
