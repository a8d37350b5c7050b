/-
  spec.l02Code; CrcOfBits, SyndromeOf, SeedAfter on the specification's side.
-/
import Derived.Test.YtadmpfmpmpdbeaaC2c
namespace Go.Proofs.Ytadmpfmpmpdbeaa
open Go.RowKit

/-- spec.l02Code. -/
theorem code_any (wd p s : Int) (w : World) : Calls Try.prog 58 #[.agg #[.int .i64 wd, .int .i64 p], .int .i64 s] w fun e w' =>
    e = .returned (.int .i64 (crcCode wd p s)) ∧ Below w.heap.size w w' := by
  have hb0 : Below w.heap.size w (w.alloc (.cells #[.int .i64 wd, .int .i64 p] 25)) := (Below.refl _ _).alloc (Nat.le_refl _) _
  rcases hI : isCrc wd p with _ | _
  · have hf : crcCode wd p s = 1 := by simp [crcCode, hI]
    rw [hf]; clear hf
    have HI := Lib.hid hI; clear hI
    have HB := Lib.hid hb0; clear hb0
    go_enter Try.func58, Try.ntmps58
    go_wp2_with fail
    refine (sIsCrc_any _ _ _).mono ?_
    rintro e w1 ⟨rfl, b1⟩
    rw [HI.out]
    go_wp2
    go_ret
    exact ⟨rfl, below_two HB.out b1⟩
  · obtain ⟨W, g, rfl, h1, h2, rfl, -⟩ := isCrc_get hI
    have hp := pow40 W (by omega)
    obtain ⟨G, hG⟩ : ∃ G, G = (g.toNat : Int) := ⟨_, rfl⟩
    rw [← hG] at hI hb0 ⊢
    clear hG
    have hcell : (w.alloc (.cells #[.int .i64 W, .int .i64 G] 25)).cell? ⟨w.heap.size, 0, none⟩ = some (.int .i64 W) := by rw [World.cell?_alloc_at _ _ _ _ rfl]; rfl
    by_cases h0 : s < 0 ∨ 2 ^ W - 1 < s
    · have hf : crcCode (W : Int) G s = 2 := by
        have : seedIn (W : Int) s = false := by
          unfold seedIn
          rw [Int.toNat_natCast]
          rcases h0 with h0 | h0
          · rw [decide_eq_false (show ¬ 0 ≤ s by omega)]; rfl
          · rw [decide_eq_false (show ¬ s ≤ 2 ^ W - 1 by omega)]; simp
        simp [crcCode, hI, this]
      rw [hf]; clear hf
      have HI := Lib.hid hI; clear hI
      have HB := Lib.hid hb0; clear hb0
      have HC := Lib.hid hcell; clear hcell
      have H0 := Lib.hid h0; clear h0
      go_enter Try.func58, Try.ntmps58
      go_wp2_with fail
      refine (sIsCrc_any _ _ _).mono ?_
      rintro e w1 ⟨rfl, b1⟩
      rw [HI.out]
      have hc1 := (b1.cell (p := ⟨w.heap.size, 0, none⟩) (by simp)).trans HC.out
      go_wp2_with fail
      refine (l01In_no _ _ _ _ H0.out).mono ?_
      rintro e w' ⟨rfl, rfl⟩
      go_wp2
      go_ret
      exact ⟨rfl, below_two HB.out b1⟩
    · have h3 : 0 ≤ s := by omega
      have h4 : s ≤ 2 ^ W - 1 := by omega
      have hf : crcCode (W : Int) G s = 0 := by
        have : seedIn (W : Int) s = true := by unfold seedIn; rw [Int.toNat_natCast, decide_eq_true h3, decide_eq_true h4]; rfl
        simp [crcCode, hI, this]
      rw [hf]; clear hf h0
      have HI := Lib.hid hI; clear hI
      have HB := Lib.hid hb0; clear hb0
      have HC := Lib.hid hcell; clear hcell
      go_enter Try.func58, Try.ntmps58
      go_wp2_with fail
      refine (sIsCrc_any _ _ _).mono ?_
      rintro e w1 ⟨rfl, b1⟩
      rw [HI.out]
      have hc1 := (b1.cell (p := ⟨w.heap.size, 0, none⟩) (by simp)).trans HC.out
      go_wp2_with fail
      refine (l01In_yes _ _ _ _ h3 h4).mono ?_
      rintro e w' ⟨rfl, rfl⟩
      go_wp2
      go_ret
      exact ⟨rfl, below_two HB.out b1⟩

/-- What a valid code and seed mean. -/
theorem crcCode_zero {wd p s : Int} (h : crcCode wd p s = 0) : ∃ (W : Nat) (g r : BitVec W), wd = (W : Int) ∧ 3 ≤ W ∧ W ≤ 24 ∧ p = (g.toNat : Int) ∧ g.getLsbD 0 = true ∧ s = (r.toNat : Int) := by
  unfold crcCode at h
  split at h
  · omega
  · rename_i h1
    split at h
    · omega
    · rename_i h2
      obtain ⟨W, g, rfl, a, b, rfl, c⟩ := isCrc_get (by simpa using h1)
      obtain ⟨r, rfl⟩ := seedIn_get (by simpa using h2)
      exact ⟨W, g, r, rfl, a, b, rfl, c, rfl⟩
theorem crcCode_put {W : Nat} {g : BitVec W} (r : BitVec W) (h1 : 3 ≤ W) (h2 : W ≤ 24) (hg : g.getLsbD 0 = true) : crcCode (W : Int) (g.toNat : Int) (r.toNat : Int) = 0 := by
  unfold crcCode
  rw [isCrc_put h1 h2 hg, seedIn_put r]; rfl
theorem crcCode_cases (wd p s : Int) : crcCode wd p s = 0 ∨ crcCode wd p s = 1 ∨ crcCode wd p s = 2 := by
  unfold crcCode
  split
  · simp
  · split <;> simp
theorem cob_code {wd p s : Int} {xs : List Int} (h : crcCode wd p s ≠ 0) : crcOfBits wd p s xs = (0, crcCode wd p s) := by unfold crcOfBits; rw [if_pos h]
theorem cob_3 {wd p s : Int} {xs : List Int} (h : crcCode wd p s = 0) (hb : isBits xs = false) : crcOfBits wd p s xs = (0, 3) := by unfold crcOfBits; rw [if_neg (by simp [h]), if_pos hb]
theorem cob_0 {wd p s : Int} {xs : List Int} (h : crcCode wd p s = 0) (hb : isBits xs = true) : crcOfBits wd p s xs = (crcRaw wd p s xs, 0) := by unfold crcOfBits; rw [if_neg (by simp [h]), if_neg (by simp [hb])]

theorem struct_cells {w : World} (wd p : Int) (T : Nat) : (w.alloc (.cells #[.int .i64 wd, .int .i64 p] T)).cell? ⟨w.heap.size, 0, none⟩ = some (.int .i64 wd) ∧ (w.alloc (.cells #[.int .i64 wd, .int .i64 p] T)).cell? ⟨w.heap.size, 1, none⟩ = some (.int .i64 p) :=
  ⟨by rw [World.cell?_alloc_at _ _ _ _ rfl]; rfl, by rw [World.cell?_alloc_at _ _ _ _ rfl]; rfl⟩

theorem sCrcOfBits_any (wd p s : Int) (ao : Option Addr) (cap : Nat) (xs : List Int) (w : World) (hr : Rd w ao xs.length xs) (hn : xs.length ≤ 1048576) :
    Calls Try.prog 30 #[.agg #[.int .i64 wd, .int .i64 p], .int .i64 s, .slice ao xs.length cap] w fun e w' =>
      e = .returned (.tuple #[.int .i64 (crcOfBits wd p s xs).1, .int .i64 (crcOfBits wd p s xs).2]) ∧ Below w.heap.size w w' := by
  have hb0 : Below w.heap.size w (w.alloc (.cells #[.int .i64 wd, .int .i64 p] 25)) := (Below.refl _ _).alloc (Nat.le_refl _) _
  have HB := Lib.hid hb0; clear hb0
  have HR := Lib.hid hr; clear hr
  by_cases hc : crcCode wd p s = 0
  · have hsc := struct_cells (w := w) wd p 25
    rcases hbt : isBits xs with _ | _
    · rw [cob_3 hc hbt]
      have HC := Lib.hid hc; clear hc
      have HI := Lib.hid hbt; clear hbt
      clear hsc
      go_enter Try.func30, Try.ntmps30
      go_wp2_with fail
      refine (code_any _ _ _ _).mono ?_
      rintro e w1 ⟨rfl, b1⟩
      rw [HC.out]
      have b2 := below_two HB.out b1
      go_wp2_with fail
      refine (sIsBits_any _ _ _ _ _ (HR.out.below b2) (by omega)).mono ?_
      rintro e w' ⟨rfl, rfl⟩
      rw [HI.out]
      go_wp2
      go_ret2
      exact ⟨rfl, b2⟩
    · rw [cob_0 hc hbt]
      have hc0 := hc
      obtain ⟨W, g, r, rfl, h1, h2, rfl, h3, rfl⟩ := crcCode_zero hc
      rw [crcRaw_eq]
      have hbits := (isBits_iff.1 hbt).2
      have HC := Lib.hid hc; clear hc hc0
      have HI := Lib.hid hbt; clear hbt
      have HS := Lib.hid hsc; clear hsc
      have HZ := Lib.hid hbits; clear hbits
      go_enter Try.func30, Try.ntmps30
      go_wp2_with fail
      refine (code_any _ _ _ _).mono ?_
      rintro e w1 ⟨rfl, b1⟩
      rw [HC.out]
      have b2 := below_two HB.out b1
      have hc0 := (b1.cell (p := ⟨w.heap.size, 0, none⟩) (by simp)).trans HS.out.1
      have hc1 := (b1.cell (p := ⟨w.heap.size, 1, none⟩) (by simp)).trans HS.out.2
      go_wp2_with fail
      refine (sIsBits_any _ _ _ _ _ (HR.out.below b2) (by omega)).mono ?_
      rintro e w' ⟨rfl, rfl⟩
      rw [HI.out]
      go_wp2_with fail
      refine (feed_any W g r _ _ _ xs _ h1 h2 (HR.out.below b2) hn HZ.out).mono ?_
      rintro e w2 ⟨rfl, b3⟩
      go_wp2
      go_ret2
      exact ⟨rfl, below_two b2 b3⟩
  · rw [cob_code hc]
    have t1 : (crcCode wd p s == 0) = false := by simpa using hc
    have t2 : (crcCode wd p s != 0) = true := by simpa using hc
    obtain ⟨q, hq⟩ : ∃ q, q = crcCode wd p s := ⟨_, rfl⟩
    rw [← hq] at t1 t2 ⊢
    have HQ := Lib.hid hq; clear hq hc
    go_enter Try.func30, Try.ntmps30
    go_wp2_with fail
    refine (code_any _ _ _ _).mono ?_
    rintro e w1 ⟨rfl, b1⟩
    rw [← HQ.out]
    have b2 := below_two HB.out b1
    go_wp2
    go_ret2
    exact ⟨rfl, b2⟩
theorem sSeedAfter_any (wd p s : Int) (ao : Option Addr) (cap : Nat) (xs : List Int) (w : World) (hr : Rd w ao xs.length xs) (hn : xs.length ≤ 1048576) :
    Calls Try.prog 29 #[.agg #[.int .i64 wd, .int .i64 p], .int .i64 s, .slice ao xs.length cap] w fun e w' =>
      e = .returned (.tuple #[.int .i64 (crcOfBits wd p s xs).1, .int .i64 (crcOfBits wd p s xs).2]) ∧ Below w.heap.size w w' := by
  have hb0 : Below w.heap.size w (w.alloc (.cells #[.int .i64 wd, .int .i64 p] 25)) := (Below.refl _ _).alloc (Nat.le_refl _) _
  have HB := Lib.hid hb0; clear hb0
  have HR := Lib.hid hr; clear hr
  obtain ⟨q, hq⟩ : ∃ q, q = crcOfBits wd p s xs := ⟨_, rfl⟩
  rw [← hq]
  have HQ := Lib.hid hq; clear hq
  go_enter Try.func29, Try.ntmps29
  go_wp2_with fail
  refine (sCrcOfBits_any _ _ _ _ _ xs _ (HR.out.below HB.out) hn).mono ?_
  rintro e w1 ⟨rfl, b1⟩
  rw [← HQ.out]
  go_wp2
  go_ret2
  exact ⟨rfl, below_two HB.out b1⟩
theorem sSyndromeOf_any (wd p : Int) (ao : Option Addr) (cap : Nat) (xs : List Int) (w : World) (hr : Rd w ao xs.length xs) (hn : xs.length ≤ 1048576) :
    Calls Try.prog 35 #[.agg #[.int .i64 wd, .int .i64 p], .slice ao xs.length cap] w fun e w' =>
      e = .returned (.tuple #[.int .i64 (crcOfBits wd p 0 xs).1, .int .i64 (crcOfBits wd p 0 xs).2]) ∧ Below w.heap.size w w' := by
  have hb0 : Below w.heap.size w (w.alloc (.cells #[.int .i64 wd, .int .i64 p] 25)) := (Below.refl _ _).alloc (Nat.le_refl _) _
  have HB := Lib.hid hb0; clear hb0
  have HR := Lib.hid hr; clear hr
  obtain ⟨q, hq⟩ : ∃ q, q = crcOfBits wd p 0 xs := ⟨_, rfl⟩
  rw [← hq]
  have HQ := Lib.hid hq; clear hq
  go_enter Try.func35, Try.ntmps35
  go_wp2_with fail
  refine (sCrcOfBits_any _ _ _ _ _ xs _ (HR.out.below HB.out) hn).mono ?_
  rintro e w1 ⟨rfl, b1⟩
  rw [← HQ.out]
  go_wp2
  go_ret2
  exact ⟨rfl, below_two HB.out b1⟩
end Go.Proofs.Ytadmpfmpmpdbeaa
