/-
  impl.CrcOfBits, SyndromeOf, SeedAfter.
-/
import Derived.Test.YtadmpfmpmpdbeaaC2f
namespace Go.Proofs.Ytadmpfmpmpdbeaa
open Go.RowKit

def crcErr (wd p s : Int) (b : Bool) : Int := if crcCode wd p s ≠ 0 then crcCode wd p s else if b = false then 3 else 0
theorem crcErr_code {wd p s : Int} {b : Bool} (h : crcCode wd p s ≠ 0) : crcErr wd p s b = crcCode wd p s := by unfold crcErr; rw [if_pos h]
theorem crcErr_3 {wd p s : Int} (h : crcCode wd p s = 0) : crcErr wd p s false = 3 := by unfold crcErr; rw [if_neg (by simp [h]), if_pos rfl]
theorem crcErr_0 {wd p s : Int} (h : crcCode wd p s = 0) : crcErr wd p s true = 0 := by unfold crcErr; rw [if_neg (by simp [h]), if_neg (by simp)]
theorem crcErr_any (wd p s : Int) (b : Bool) (w : World) : Calls Try.prog 54 #[.agg #[.int .i64 wd, .int .i64 p], .int .i64 s, .bool b] w fun e w' =>
    e = .returned (.int .i64 (crcErr wd p s b)) ∧ Below w.heap.size w w' := crcError_any wd p s b w
theorem cob_err {wd p s : Int} {xs : List Int} (h : crcErr wd p s (isBits xs) ≠ 0) : crcOfBits wd p s xs = (0, crcErr wd p s (isBits xs)) := by
  by_cases h1 : crcCode wd p s = 0
  · rcases hb : isBits xs with _ | _
    · rw [cob_3 h1 hb, crcErr_3 h1]
    · rw [hb, crcErr_0 h1] at h; exact absurd rfl h
  · rw [cob_code h1, crcErr_code h1]
theorem cob_ok {wd p s : Int} {xs : List Int} (h : crcErr wd p s (isBits xs) = 0) : crcCode wd p s = 0 ∧ isBits xs = true := by
  by_cases h1 : crcCode wd p s = 0
  · rcases hb : isBits xs with _ | _
    · rw [hb, crcErr_3 h1] at h; omega
    · exact ⟨h1, rfl⟩
  · rw [crcErr_code h1] at h; exact absurd h h1

theorem crcOfBits_any (wd p s : Int) (ao : Option Addr) (cap : Nat) (xs : List Int) (w : World) (hr : Rd w ao xs.length xs) (hn : xs.length ≤ 1048576) :
    Calls Try.prog 26 #[.agg #[.int .i64 wd, .int .i64 p], .int .i64 s, .slice ao xs.length cap] w fun e w' =>
      e = .returned (.tuple #[.int .i64 (crcOfBits wd p s xs).1, .int .i64 (crcOfBits wd p s xs).2]) ∧ Below w.heap.size w w' := by
  have hb0 : Below w.heap.size w (w.alloc (.cells #[.int .i64 wd, .int .i64 p] 25)) := (Below.refl _ _).alloc (Nat.le_refl _) _
  have hsc := struct_cells (w := w) wd p 25
  have HB := Lib.hid hb0.drew; clear hb0
  have HR := Lib.hid hr; clear hr
  by_cases he : crcErr wd p s (isBits xs) = 0
  · obtain ⟨hc, hbt⟩ := cob_ok he
    rw [cob_0 hc hbt]
    have hbits := (isBits_iff.1 hbt).2
    have HZ := Lib.hid hbits; clear hbits
    have HE := Lib.hid he; clear he
    obtain ⟨W, g, r, rfl, h1, h2, rfl, h3, rfl⟩ := crcCode_zero hc
    rw [crcRaw_eq]
    clear hbt hc
    have HS := Lib.hid hsc; clear hsc
    go_enter Try.func26, Try.ntmps26
    go_wp2
    generalize World.alloc w (.cells #[.int .i64 W, .int .i64 g.toNat] 25) = w0 at HS HB ⊢
    have hsc := HS.out
    obtain ⟨hsc0, hsc1⟩ := hsc
    go_still_tail 4, (by kernel_rfl)
    still_call (still_w (isBits_any _ _ _ _ _ (HR.out.below HB.out) (by omega)))
    refine wpStill_nil ?_
    change wpList _ _ _ _ _ w0.drew
    go_wp2_with fail
    refine (crcErr_any _ _ _ _ _).mono ?_
    rintro e w1 ⟨rfl, b1⟩
    rw [HE.out]
    have b2 := below_two HB.out b1
    have hc0 := (b1.cell (p := ⟨w.heap.size, 0, none⟩) (World.block_lt_of_cell? _ _ hsc0)).trans hsc0
    have hc1 := (b1.cell (p := ⟨w.heap.size, 1, none⟩) (World.block_lt_of_cell? _ _ hsc1)).trans hsc1
    go_wp2_with fail
    refine (newCode_any W g _ h1 h2).mono ?_
    rintro e w2 ⟨p2, rfl, hcy, -, b3⟩
    have b4 := below_two b2 b3
    have HC := Lib.hid hcy.code; clear hcy
    go_wp2_with fail
    refine (afterBits_any p2 W g r _ _ _ xs _ h1 h2 HC.out (HR.out.below b4) hn HZ.out).mono ?_
    rintro e w' ⟨rfl, rfl⟩
    go_wp2
    go_ret2
    exact ⟨rfl, b4⟩
  · rw [cob_err he]
    have t1 : (crcErr wd p s (isBits xs) == 0) = false := by simpa using he
    have t2 : (crcErr wd p s (isBits xs) != 0) = true := by simpa using he
    obtain ⟨q, hq⟩ : ∃ q, q = crcErr wd p s (isBits xs) := ⟨_, rfl⟩
    rw [← hq] at t1 t2 ⊢
    have HQ := Lib.hid hq; clear hq he
    have HS := Lib.hid hsc; clear hsc
    go_enter Try.func26, Try.ntmps26
    go_wp2
    generalize World.alloc w (.cells #[.int .i64 wd, .int .i64 p] 25) = w0 at HS HB ⊢
    have hsc := HS.out
    obtain ⟨hsc0, hsc1⟩ := hsc
    go_still_tail 4, (by kernel_rfl)
    still_call (still_w (isBits_any _ _ _ _ _ (HR.out.below HB.out) (by omega)))
    refine wpStill_nil ?_
    change wpList _ _ _ _ _ w0.drew
    go_wp2_with fail
    refine (crcErr_any _ _ _ _ _).mono ?_
    rintro e w1 ⟨rfl, b1⟩
    rw [← HQ.out]
    have b2 := below_two HB.out b1
    go_wp2
    go_ret2
    exact ⟨rfl, b2⟩
theorem seedAfter_any (wd p s : Int) (ao : Option Addr) (cap : Nat) (xs : List Int) (w : World) (hr : Rd w ao xs.length xs) (hn : xs.length ≤ 1048576) :
    Calls Try.prog 28 #[.agg #[.int .i64 wd, .int .i64 p], .int .i64 s, .slice ao xs.length cap] w fun e w' =>
      e = .returned (.tuple #[.int .i64 (crcOfBits wd p s xs).1, .int .i64 (crcOfBits wd p s xs).2]) ∧ Below w.heap.size w w' := by
  have hb0 : Below w.heap.size w (w.alloc (.cells #[.int .i64 wd, .int .i64 p] 25)) := (Below.refl _ _).alloc (Nat.le_refl _) _
  have HB := Lib.hid hb0; clear hb0
  have HR := Lib.hid hr; clear hr
  obtain ⟨q, hq⟩ : ∃ q, q = crcOfBits wd p s xs := ⟨_, rfl⟩
  rw [← hq]
  have HQ := Lib.hid hq; clear hq
  go_enter Try.func28, Try.ntmps28
  go_wp2_with fail
  refine (crcOfBits_any _ _ _ _ _ xs _ (HR.out.below HB.out) hn).mono ?_
  rintro e w1 ⟨rfl, b1⟩
  rw [← HQ.out]
  go_wp2
  go_ret2
  exact ⟨rfl, below_two HB.out b1⟩
theorem syndromeOf_any (wd p : Int) (ao : Option Addr) (cap : Nat) (xs : List Int) (w : World) (hr : Rd w ao xs.length xs) (hn : xs.length ≤ 1048576) :
    Calls Try.prog 34 #[.agg #[.int .i64 wd, .int .i64 p], .slice ao xs.length cap] w fun e w' =>
      e = .returned (.tuple #[.int .i64 (crcOfBits wd p 0 xs).1, .int .i64 (crcOfBits wd p 0 xs).2]) ∧ Below w.heap.size w w' := by
  have hb0 : Below w.heap.size w (w.alloc (.cells #[.int .i64 wd, .int .i64 p] 25)) := (Below.refl _ _).alloc (Nat.le_refl _) _
  have HB := Lib.hid hb0; clear hb0
  have HR := Lib.hid hr; clear hr
  obtain ⟨q, hq⟩ : ∃ q, q = crcOfBits wd p 0 xs := ⟨_, rfl⟩
  rw [← hq]
  have HQ := Lib.hid hq; clear hq
  go_enter Try.func34, Try.ntmps34
  go_wp2_with fail
  refine (crcOfBits_any _ _ _ _ _ xs _ (HR.out.below HB.out) hn).mono ?_
  rintro e w1 ⟨rfl, b1⟩
  rw [← HQ.out]
  go_wp2
  go_ret2
  exact ⟨rfl, below_two HB.out b1⟩
end Go.Proofs.Ytadmpfmpmpdbeaa
