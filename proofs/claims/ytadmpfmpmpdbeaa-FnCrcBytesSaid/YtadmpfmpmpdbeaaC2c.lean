/-
  Valid codes on both sides; the errors in common.
-/
import Derived.Test.YtadmpfmpmpdbeaaC2b
namespace Go.Proofs.Ytadmpfmpmpdbeaa
open Go.RowKit

theorem isCrc_lowW {wd p : Int} (h : wd < 3) : isCrc wd p = false := by unfold isCrc; rw [decide_eq_false (show ¬ 3 ≤ wd by omega)]; rfl
theorem isCrc_highW {wd p : Int} (h : 24 < wd) : isCrc wd p = false := by unfold isCrc; rw [decide_eq_false (show ¬ wd ≤ 24 by omega)]; simp
theorem isCrc_lowP {wd p : Int} (h : p < 1) : isCrc wd p = false := by unfold isCrc; rw [decide_eq_false (show ¬ 1 ≤ p by omega)]; simp
theorem isCrc_highP {W : Nat} {p : Int} (h : 2 ^ W - 1 < p) : isCrc (W : Int) p = false := by unfold isCrc; rw [Int.toNat_natCast, decide_eq_false (show ¬ p ≤ 2 ^ W - 1 by omega)]; simp
theorem isCrc_even {W : Nat} {p : Int} (h1 : 3 ≤ W) (h2 : W ≤ 24) (h3 : 1 ≤ p) (h4 : p ≤ 2 ^ W - 1) : isCrc (W : Int) p = decide (p % 2 = 1) := by
  unfold isCrc
  rw [Int.toNat_natCast, decide_eq_true (show (3 : Int) ≤ W by omega), decide_eq_true (show (W : Int) ≤ 24 by omega), decide_eq_true h3, decide_eq_true h4]
  simp
theorem beq_dec (a b : Int) : (a == b) = decide (a = b) := by by_cases h : a = b <;> simp [h]

theorem isCrc_any (wd p : Int) (w : World) : Calls Try.prog 23 #[.agg #[.int .i64 wd, .int .i64 p]] w fun e w' => e = .returned (.bool (isCrc wd p)) ∧ Below w.heap.size w w' := by
  have hb0 : Below w.heap.size w (w.alloc (.cells #[.int .i64 wd, .int .i64 p] 25)) := (Below.refl _ _).alloc (Nat.le_refl _) _
  have HB := Lib.hid hb0; clear hb0
  by_cases h0 : wd < 3
  · rw [isCrc_lowW h0]
    go_enter Try.func23, Try.ntmps23
    go_wp2
    go_ret
    exact ⟨rfl, HB.out⟩
  · by_cases h1 : 24 < wd
    · rw [isCrc_highW h1]
      go_enter Try.func23, Try.ntmps23
      go_wp2
      go_ret
      exact ⟨rfl, HB.out⟩
    · obtain ⟨W, rfl⟩ := Int.eq_ofNat_of_zero_le (show 0 ≤ wd by omega)
      have h2 : 3 ≤ W := by omega
      have h3 : W ≤ 24 := by omega
      have hp := pow40 W (by omega)
      by_cases h4 : p < 1
      · rw [isCrc_lowP h4]
        have hd : decide ((1 : Int) ≤ p) = false := decide_eq_false (by omega)
        go_enter Try.func23, Try.ntmps23
        go_wp2
        go_quiet (fail)
        go_wp2
        go_ret
        exact ⟨rfl, below_drewN' HB.out _⟩
      · by_cases h5 : 2 ^ W - 1 < p
        · rw [isCrc_highP h5]
          have hd : decide (p ≤ 2 ^ W - 1) = false := decide_eq_false (by omega)
          go_enter Try.func23, Try.ntmps23
          go_wp2
          go_quiet ((go_at_call 63; exact quiet_w (great_any _ _ h3)))
          go_wp2
          go_ret
          exact ⟨rfl, below_drewN' HB.out _⟩
        · rw [isCrc_even h2 h3 (by omega) (by omega)]
          have hand := (beq_dec (bits .and .i64 p 1) 1).trans (by rw [and_one])
          have HA := Lib.hid hand; clear hand
          go_enter Try.func23, Try.ntmps23
          go_wp2
          go_quiet ((go_at_call 63; exact quiet_w (great_any _ _ h3)))
          go_wp2
          go_ret
          exact ⟨ret_bool HA.out, below_drewN' HB.out _⟩

theorem sIsCrc_any (wd p : Int) (w : World) : Calls Try.prog 24 #[.agg #[.int .i64 wd, .int .i64 p]] w fun e w' => e = .returned (.bool (isCrc wd p)) ∧ Below w.heap.size w w' := by
  have hb0 : Below w.heap.size w (w.alloc (.cells #[.int .i64 wd, .int .i64 p] 25)) := (Below.refl _ _).alloc (Nat.le_refl _) _
  have HB := Lib.hid hb0; clear hb0
  by_cases h0 : wd < 3 ∨ 24 < wd
  · have hf : isCrc wd p = false := h0.elim isCrc_lowW isCrc_highW
    rw [hf]; clear hf
    have H0 := Lib.hid h0; clear h0
    go_enter Try.func24, Try.ntmps24
    go_wp2_with (go_at_call_of 64 (Value.int IntKind.i64 wd); refine (l01In_no _ _ _ _ H0.out).mono ?_; rintro e w' ⟨rfl, rfl⟩)
    go_ret
    exact ⟨rfl, HB.out⟩
  · obtain ⟨W, rfl⟩ := Int.eq_ofNat_of_zero_le (show 0 ≤ wd by omega)
    have h2 : 3 ≤ W := by omega
    have h3 : W ≤ 24 := by omega
    clear h0
    have hp := pow40 W (by omega)
    by_cases h4 : p < 1 ∨ 2 ^ W - 1 < p
    · have hf : isCrc (W : Int) p = false := h4.elim isCrc_lowP isCrc_highP
      rw [hf]; clear hf
      have H4 := Lib.hid h4; clear h4
      go_enter Try.func24, Try.ntmps24
      go_wp2_with fail
      refine (l01In_yes _ _ _ _ (by omega) (by omega)).mono ?_
      rintro e w' ⟨rfl, rfl⟩
      go_wp2_with fail
      refine (l01In_no _ _ _ _ H4.out).mono ?_
      rintro e w' ⟨rfl, rfl⟩
      go_wp2
      go_ret
      exact ⟨rfl, HB.out⟩
    · rw [isCrc_even h2 h3 (by omega) (by omega)]
      have h5 : 1 ≤ p := by omega
      have h6 : p ≤ 2 ^ W - 1 := by omega
      clear h4
      have hd := beq_dec (p % 2) 1
      have HD := Lib.hid hd; clear hd
      go_enter Try.func24, Try.ntmps24
      go_wp2_with fail
      refine (l01In_yes _ _ _ _ (by omega) (by omega)).mono ?_
      rintro e w' ⟨rfl, rfl⟩
      go_wp2_with fail
      refine (l01In_yes _ _ _ _ h5 h6).mono ?_
      rintro e w' ⟨rfl, rfl⟩
      go_wp2
      go_ret
      exact ⟨ret_bool HD.out, HB.out⟩

/-- impl.crcError. -/
theorem crcError_any (wd p s : Int) (b : Bool) (w : World) : Calls Try.prog 54 #[.agg #[.int .i64 wd, .int .i64 p], .int .i64 s, .bool b] w fun e w' =>
    e = .returned (.int .i64 (if crcCode wd p s ≠ 0 then crcCode wd p s else if b = false then 3 else 0)) ∧ Below w.heap.size w w' := by
  have hb0 : Below w.heap.size w (w.alloc (.cells #[.int .i64 wd, .int .i64 p] 25)) := (Below.refl _ _).alloc (Nat.le_refl _) _
  rcases hI : isCrc wd p with _ | _
  · have hf : (if crcCode wd p s ≠ 0 then crcCode wd p s else if b = false then 3 else 0) = 1 := by simp [crcCode, hI]
    rw [hf]; clear hf
    have HI := Lib.hid hI; clear hI
    have HB := Lib.hid hb0; clear hb0
    go_enter Try.func54, Try.ntmps54
    go_wp2_with fail
    refine (isCrc_any _ _ _).mono ?_
    rintro e w1 ⟨rfl, b1⟩
    rw [HI.out]
    go_wp2
    go_ret
    exact ⟨rfl, below_two HB.out b1⟩
  · obtain ⟨W, g, rfl, h1, h2, rfl, -⟩ := isCrc_get hI
    have hp := pow40 W (by omega)
    obtain ⟨G, hG⟩ : ∃ G, G = (g.toNat : Int) := ⟨_, rfl⟩
    rw [← hG] at hI hb0 ⊢
    clear hG
    have hcell : (w.alloc (.cells #[.int .i64 W, .int .i64 G] 25)).cell? ⟨w.heap.size, 0, none⟩ = some (.int .i64 W) := by rw [World.cell?_alloc_at _ _ _ _ rfl]; rfl
    by_cases h0 : s < 0
    · have hf : (if crcCode (W : Int) G s ≠ 0 then crcCode (W : Int) G s else if b = false then 3 else 0) = 2 := by
        have : seedIn (W : Int) s = false := by unfold seedIn; rw [decide_eq_false (by omega)]; rfl
        simp [crcCode, hI, this]
      rw [hf]; clear hf
      have HI := Lib.hid hI; clear hI
      have HB := Lib.hid hb0; clear hb0 hcell
      go_enter Try.func54, Try.ntmps54
      go_wp2_with fail
      refine (isCrc_any _ _ _).mono ?_
      rintro e w1 ⟨rfl, b1⟩
      rw [HI.out]
      go_wp2
      go_ret
      exact ⟨rfl, below_two HB.out b1⟩
    · by_cases h3 : 2 ^ W - 1 < s
      · have hf : (if crcCode (W : Int) G s ≠ 0 then crcCode (W : Int) G s else if b = false then 3 else 0) = 2 := by
          have : seedIn (W : Int) s = false := by unfold seedIn; rw [Int.toNat_natCast, decide_eq_false (show ¬ s ≤ 2 ^ W - 1 by omega)]; simp
          simp [crcCode, hI, this]
        rw [hf]; clear hf
        have HI := Lib.hid hI; clear hI
        have HB := Lib.hid hb0; clear hb0
        have HC := Lib.hid hcell; clear hcell
        go_enter Try.func54, Try.ntmps54
        go_wp2_with fail
        refine (isCrc_any _ _ _).mono ?_
        rintro e w1 ⟨rfl, b1⟩
        rw [HI.out]
        have hc1 := (b1.cell (p := ⟨w.heap.size, 0, none⟩) (by simp)).trans HC.out
        go_wp2_with fail
        refine (great_any _ _ h2).mono ?_
        rintro e w' ⟨rfl, rfl⟩
        go_wp2
        go_ret
        exact ⟨rfl, below_two HB.out b1⟩
      · have hf : (if crcCode (W : Int) G s ≠ 0 then crcCode (W : Int) G s else if b = false then 3 else 0) = (if b = false then 3 else 0) := by
          have : seedIn (W : Int) s = true := by unfold seedIn; rw [Int.toNat_natCast, decide_eq_true (show 0 ≤ s by omega), decide_eq_true (show s ≤ 2 ^ W - 1 by omega)]; rfl
          simp [crcCode, hI, this]
        rw [hf]; clear hf
        have HI := Lib.hid hI; clear hI
        have HB := Lib.hid hb0; clear hb0
        have HC := Lib.hid hcell; clear hcell
        cases b
        all_goals
          go_enter Try.func54, Try.ntmps54
          go_wp2_with fail
          refine (isCrc_any _ _ _).mono ?_
          rintro e w1 ⟨rfl, b1⟩
          rw [HI.out]
          have hc1 := (b1.cell (p := ⟨w.heap.size, 0, none⟩) (by simp)).trans HC.out
          go_wp2_with fail
          refine (great_any _ _ h2).mono ?_
          rintro e w' ⟨rfl, rfl⟩
          go_wp2
          go_ret
          exact ⟨rfl, below_two HB.out b1⟩
end Go.Proofs.Ytadmpfmpmpdbeaa
