/-
  Chapter 3: BurstOf on both sides.
-/
import Derived.Test.YtfmbefmiglpijaaC3a
namespace Go.Proofs.Ytfmbefmiglpijaa
open Go.RowKit

theorem burstTo_le (xs : List Int) (k : Nat) : (burstTo xs k).1 ≤ k ∧ (burstTo xs k).2 ≤ k := by
  rcases burst_ok xs k with ⟨h1, h2, -⟩ | ⟨-, h2, -⟩ <;> omega
theorem burst_le (xs : List Int) : (burst xs).1 ≤ xs.length ∧ (burst xs).2 ≤ xs.length := burstTo_le xs xs.length
theorem burst_eq {xs : List Int} {f j : Nat} (hf : xs.getD f 0 ≠ 0) (hfb : ∀ i, i < f → xs.getD i 0 = 0) (hj : xs.getD j 0 ≠ 0) (hjb : ∀ i, j < i → xs.getD i 0 = 0) (hfj : f ≤ j) (hjn : j < xs.length) : burst xs = (f, j - f + 1) := by
  have hb := burst_ok xs xs.length
  change BurstOk xs xs.length (burst xs).1 (burst xs).2 at hb
  rcases hb with ⟨-, -, h3⟩ | ⟨h1, h2, h3, h4, h5⟩
  · exact absurd (h3 f (by omega)) hf
  · have e1 : (burst xs).1 = f := by
      rcases Nat.lt_trichotomy (burst xs).1 f with h | h | h
      · exact absurd (hfb _ h) h3
      · exact h
      · exact absurd (h5 f (by omega) (.inl h)) hf
    have e2 : (burst xs).1 + (burst xs).2 - 1 = j := by
      rcases Nat.lt_trichotomy ((burst xs).1 + (burst xs).2 - 1) j with h | h | h
      · exact absurd (h5 j hjn (.inr (by omega))) hj
      · exact h
      · exact absurd (hjb _ h) h4
    apply Prod.ext
    · exact e1
    · show (burst xs).2 = j - f + 1
      omega
theorem burst_none {xs : List Int} (hb : ∀ x ∈ xs, 0 ≤ x ∧ x ≤ 1) (h : ∀ j, j < xs.length → xs.getD j 0 ≠ 1) : (burst xs).2 = 0 := by
  have hk := burst_ok xs xs.length
  change BurstOk xs xs.length (burst xs).1 (burst xs).2 at hk
  rcases hk with ⟨h1, -, -⟩ | ⟨h1, h2, h3, -, -⟩
  · exact h1
  · have h4 := hb _ (getD_mem' (xs := xs) (k := (burst xs).1) (by omega))
    have h5 := h (burst xs).1 (by omega)
    omega
theorem burstTo_same {xs : List Int} {k : Nat} (h : xs.getD k 0 = 0) : burstTo xs (k + 1) = burstTo xs k := by simp only [burstTo]; rw [if_pos h]
theorem burstTo_new {xs : List Int} {k : Nat} (h : xs.getD k 0 ≠ 0) (h2 : (burstTo xs k).2 = 0) : burstTo xs (k + 1) = (k, 1) := by simp only [burstTo]; rw [if_neg h, if_pos h2]
theorem burstTo_more {xs : List Int} {k : Nat} (h : xs.getD k 0 ≠ 0) (h2 : (burstTo xs k).2 ≠ 0) : burstTo xs (k + 1) = ((burstTo xs k).1, k - (burstTo xs k).1 + 1) := by simp only [burstTo]; rw [if_neg h, if_neg h2]

/-- spec.l03Burst. -/
theorem sBurst_any (ao : Option Addr) (n cap : Nat) (xs : List Int) (w : World) (hr : Rd w ao n xs) (hn : n ≤ 1048576) :
    Calls Try.prog 52 #[.slice ao n cap] w fun e w' => e = .returned (.tuple #[.int .i64 (burst xs).1, .int .i64 (burst xs).2]) ∧ w = w' := by
  obtain ⟨hlen, hat⟩ := hr
  have HL := Lib.hid hlen; clear hlen
  have HA := Lib.hid hat; clear hat
  obtain ⟨R, hR⟩ : ∃ R, R = burst xs := ⟨_, rfl⟩
  rw [← hR]
  have HR := Lib.hid hR; clear hR
  go_enter Try.func52, Try.ntmps52
  go_wp2
  go_loop [4, 5, 6] (fun u v i => ∃ (k f l : Nat), k ≤ n ∧ i = .int .i64 k ∧ u = .int .i64 f ∧ v = .int .i64 l ∧ f ≤ k ∧ l ≤ k ∧ Hid (burstTo xs k = (f, l))) (fun _ _ i => n - (intOf i).toNat)
  case atStart => exact ⟨0, 0, 0, Nat.zero_le _, rfl, rfl, rfl, by omega, by omega, rfl⟩
  case round =>
    obtain ⟨k, f, l, hk, rfl, rfl, rfl, hf, hl, HY⟩ := hrel
    by_cases hlt : k < n
    · obtain ⟨b, off, rfl, hall⟩ := HA.out (by omega)
      have hck := hall k hlt
      clear hall
      obtain ⟨y, hy⟩ : ∃ y, y = xs.getD k 0 := ⟨_, rfl⟩
      rw [← hy] at hck
      by_cases h0 : y = 0
      · have t1 : (y == 0) = true := by simp [h0]
        have hfin : burstTo xs (k + 1) = (f, l) := by rw [burstTo_same (by rw [← hy, h0]), HY.out]
        have HF := Lib.hid hfin; clear hfin h0 hy
        go_wp2
        go_round
        case rel => exact ⟨k + 1, f, l, by omega, by go_num, rfl, rfl, by omega, by omega, HF⟩
        case measure => simp [intOf]; omega
      · have t1 : (y == 0) = false := by simp [h0]
        by_cases hl0 : l = 0
        · have hfin : burstTo xs (k + 1) = (k, 1) := burstTo_new (by rw [← hy]; exact h0) (by rw [HY.out]; exact hl0)
          subst hl0
          have HF := Lib.hid hfin; clear hfin h0 hy
          go_wp2
          go_round
          case rel => exact ⟨k + 1, k, 1, by omega, by go_num, rfl, by go_num, by omega, by omega, HF⟩
          case measure => simp [intOf]; omega
        · have hfin : burstTo xs (k + 1) = (f, k - f + 1) := by
            have := burstTo_more (xs := xs) (k := k) (by rw [← hy]; exact h0) (by rw [HY.out]; exact hl0)
            rw [HY.out] at this; exact this
          have t2 : ((l : Int) == 0) = false := by simp [hl0]
          have hnum : (k : Int) - (f : Int) + 1 = ((k - f + 1 : Nat) : Int) := by omega
          have HF := Lib.hid hfin; clear hfin h0 hy
          have HN := Lib.hid hnum; clear hnum hl0
          go_wp2
          go_round
          case rel => exact ⟨k + 1, f, k - f + 1, by omega, by go_num, rfl, by rw [HN.out], by omega, by omega, HF⟩
          case measure => simp [intOf]; omega
    · have hkn : k = n := by omega
      subst hkn
      have hfin : R = (f, l) := by rw [HR.out, ← HY.out]; unfold burst; rw [HL.out]
      have HF := Lib.hid hfin; clear hfin
      go_wp2
      go_ret2
      rw [HF.out]
      exact ⟨rfl, rfl⟩

theorem bo_1 {xs : List Int} (h : isBits xs = false) : burstOf xs = (0, 0, 1) := by unfold burstOf; rw [if_pos h]
theorem bo_4 {xs : List Int} (h : isBits xs = true) (h2 : (burst xs).2 = 0) : burstOf xs = (0, 0, 4) := by unfold burstOf; rw [if_neg (by simp [h]), if_pos h2]
theorem bo_0 {xs : List Int} (h : isBits xs = true) (h2 : (burst xs).2 ≠ 0) : burstOf xs = (((burst xs).1 : Int), ((burst xs).2 : Int), 0) := by unfold burstOf; rw [if_neg (by simp [h]), if_neg h2]
/-- spec.BurstOf. -/
theorem sBurstOf_any (ao : Option Addr) (n cap : Nat) (xs : List Int) (w : World) (hr : Rd w ao n xs) (hn : n ≤ 1048576) :
    Calls Try.prog 34 #[.slice ao n cap] w fun e w' => e = .returned (.tuple #[.int .i64 (burstOf xs).1, .int .i64 (burstOf xs).2.1, .int .i64 (burstOf xs).2.2]) ∧ w = w' := by
  by_cases hb : isBits xs = true
  · by_cases hl : (burst xs).2 = 0
    · rw [bo_4 hb hl]
      have HB := Lib.hid hb; clear hb
      obtain ⟨R, hR⟩ : ∃ R, R = burst xs := ⟨_, rfl⟩
      rw [← hR] at hl
      have HR := Lib.hid hR; clear hR
      obtain ⟨f, l⟩ := R
      simp only at hl
      subst hl
      go_enter Try.func34, Try.ntmps34
      go_wp2_with fail
      refine (sIsBits_any _ _ _ _ _ hr (by omega)).mono ?_
      rintro e w' ⟨rfl, rfl⟩
      rw [HB.out]
      go_wp2_with fail
      refine (sBurst_any _ _ _ xs _ hr hn).mono ?_
      rintro e w' ⟨rfl, rfl⟩
      rw [← HR.out]
      go_wp2
      go_ret3
      exact ⟨rfl, rfl⟩
    · rw [bo_0 hb hl]
      have HB := Lib.hid hb; clear hb
      obtain ⟨R, hR⟩ : ∃ R, R = burst xs := ⟨_, rfl⟩
      rw [← hR] at hl ⊢
      have HR := Lib.hid hR; clear hR
      obtain ⟨f, l⟩ := R
      simp only at hl
      have t1 : ((l : Int) == 0) = false := by simp [hl]
      clear hl
      go_enter Try.func34, Try.ntmps34
      go_wp2_with fail
      refine (sIsBits_any _ _ _ _ _ hr (by omega)).mono ?_
      rintro e w' ⟨rfl, rfl⟩
      rw [HB.out]
      go_wp2_with fail
      refine (sBurst_any _ _ _ xs _ hr hn).mono ?_
      rintro e w' ⟨rfl, rfl⟩
      rw [← HR.out]
      go_wp2
      go_ret3
      exact ⟨rfl, rfl⟩
  · have hb' : isBits xs = false := by simpa using hb
    rw [bo_1 hb']
    have HB := Lib.hid hb'; clear hb hb'
    go_enter Try.func34, Try.ntmps34
    go_wp2_with fail
    refine (sIsBits_any _ _ _ _ _ hr (by omega)).mono ?_
    rintro e w' ⟨rfl, rfl⟩
    rw [HB.out]
    go_wp2
    go_ret3
    exact ⟨rfl, rfl⟩
/-- impl.BurstOf. -/
theorem burstOf_any (ao : Option Addr) (n cap : Nat) (xs : List Int) (w : World) (hr : Rd w ao n xs) (hn : n ≤ 1048576) :
    Calls Try.prog 33 #[.slice ao n cap] w fun e w' => e = .returned (.tuple #[.int .i64 (burstOf xs).1, .int .i64 (burstOf xs).2.1, .int .i64 (burstOf xs).2.2]) ∧ w = w' := by
  obtain ⟨R, hR⟩ : ∃ R, R = burstOf xs := ⟨_, rfl⟩
  rw [← hR]
  have HR := Lib.hid hR; clear hR
  have HRD := Lib.hid hr
  obtain ⟨hlen, hat⟩ := hr
  have HL := Lib.hid hlen; clear hlen
  have HA := Lib.hid hat; clear hat
  by_cases hb : isBits xs = true
  · have hbits := (isBits_iff.1 hb).2
    have HZ := Lib.hid hbits; clear hbits
    have HB := Lib.hid hb; clear hb
    go_enter Try.func33, Try.ntmps33
    go_wp2_with fail
    refine (isBits_any _ _ _ _ _ HRD.out (by omega)).mono ?_
    rintro e w' ⟨rfl, rfl⟩
    rw [HB.out]
    go_wp2_with fail
    refine (index_any _ _ _ xs 1 _ HRD.out hn).mono ?_
    rintro e w' ⟨r, rfl, hf, rfl⟩
    rcases hf with ⟨rfl, hf⟩ | ⟨f, rfl, hf1, hf2, hf3⟩
    · have hfin : R = (0, 0, 4) := by rw [HR.out, bo_4 HB.out (burst_none HZ.out hf)]
      have HF := Lib.hid hfin; clear hfin hf
      go_wp2
      go_ret3
      rw [HF.out]
      exact ⟨rfl, rfl⟩
    · have hfb : ∀ i, i < f → xs.getD i 0 = 0 := fun i hi => by
        have h1 := HZ.out _ (getD_mem' (xs := xs) (k := i) (by omega))
        have h2 := hf3 i hi
        omega
      have HFB := Lib.hid hfb; clear hfb hf3
      have HF2 := Lib.hid hf2; clear hf2
      rw [HL.out] at hf1
      go_wp2
      go_loop [6] (fun i => ∃ j : Nat, f ≤ j ∧ j < n ∧ i = .int .i64 j ∧ Hid (∀ i, j < i → xs.getD i 0 = 0)) (fun i => (intOf i).toNat)
      case atStart => exact ⟨n - 1, by omega, by omega, by rw [show ((n - 1 : Nat) : Int) = (n : Int) - 1 from by omega], fun i hi => getD_out (by rw [HL.out]; omega)⟩
      case round =>
        obtain ⟨j, hj1, hj2, rfl, HJ⟩ := hrel
        obtain ⟨b, off, rfl, hall⟩ := HA.out (by omega)
        have hck := hall j hj2
        clear hall
        obtain ⟨y, hy⟩ : ∃ y, y = xs.getD j 0 := ⟨_, rfl⟩
        rw [← hy] at hck
        by_cases h0 : y = 0
        · have t1 : (y == 0) = true := by simp [h0]
          have hne : f ≠ j := fun e => by rw [e, ← hy, h0] at HF2; exact absurd HF2.out (by omega)
          have hfin : ∀ i, j - 1 < i → xs.getD i 0 = 0 := fun i hi => by
            by_cases e : i = j
            · rw [e, ← hy, h0]
            · exact HJ.out i (by omega)
          have HF := Lib.hid hfin; clear hfin h0 hy
          go_wp2
          go_round
          case rel => exact ⟨j - 1, by omega, by omega, by rw [show ((j - 1 : Nat) : Int) = (j : Int) - 1 from by omega], HF⟩
          case measure => simp [intOf]; omega
        · have t1 : (y == 0) = false := by simp [h0]
          have hbe : burst xs = (f, j - f + 1) := burst_eq (by rw [HF2.out]; omega) HFB.out (by rw [← hy]; exact h0) HJ.out hj1 (by rw [HL.out]; exact hj2)
          have hfin : R = ((f : Int), ((j : Int) - f + 1), 0) := by
            rw [HR.out, bo_0 HB.out (by rw [hbe]; simp), hbe]
            simp only [Prod.mk.injEq, and_true, true_and]
            omega
          have HF := Lib.hid hfin; clear hfin h0 hy hbe
          go_wp2
          go_ret3
          rw [HF.out]
          exact ⟨rfl, rfl⟩
  · have hb' : isBits xs = false := by simpa using hb
    have hfin : R = (0, 0, 1) := by rw [HR.out, bo_1 hb']
    have HF := Lib.hid hfin; clear hfin
    have HB := Lib.hid hb'; clear hb hb'
    go_enter Try.func33, Try.ntmps33
    go_wp2_with fail
    refine (isBits_any _ _ _ _ _ HRD.out (by omega)).mono ?_
    rintro e w' ⟨rfl, rfl⟩
    rw [HB.out]
    go_wp2
    go_ret3
    rw [HF.out]
    exact ⟨rfl, rfl⟩
end Go.Proofs.Ytfmbefmiglpijaa
