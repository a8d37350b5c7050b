/-
  spec.l02DrawSeed; the draws of the laws of chapter 2 out of a code.
-/
import Derived.Test.YtadmpfmpmpdbeaaC2m
namespace Go.Proofs.Ytadmpfmpmpdbeaa
open Go.RowKit

/-- What a draw of a number leaves. -/
def DrawnNum (T : Nat) (w : World) (p : Nat) (e : Ending) (w' : World) : Prop := ∃ x : Int, e = .returned (.int .i64 x) ∧ Src T w' p ∧ w.grownBy w' (some p)
set_option maxHeartbeats 800000 in
theorem drawSeed_any (p : Nat) (wd pl : Int) (w : World) (hs : Src 79 w p) :
    Calls Try.prog 52 #[.pointer (some ⟨p, 0, none⟩), .agg #[.int .i64 wd, .int .i64 pl]] w (DrawnNum 79 w p) := by
  have hba := (Below.refl w.heap.size w).alloc (Nat.le_refl _) (.cells #[.int .i64 wd, .int .i64 pl] 25)
  have HB := Lib.hid hba; clear hba
  have hs0 := hs.below HB.out
  have g0 := grown_of_below (g := some p) HB.out
  clear hs
  by_cases h1 : wd < 1
  · skip
    go_enter Try.func52, Try.ntmps52
    go_wp2_with fail
    refine (next_any _ _ _ hs0 (by omega)).mono ?_
    rintro e w1 ⟨y, rfl, hy0, hy1, -, hs1, g1⟩
    replace g1 := grown_trans g0 g1
    by_cases hy : y = 0
    · subst hy
      have hba1 := fun ob => (Below.refl w1.heap.size w1).alloc (Nat.le_refl _) ob
      have HB1 := Lib.hid hba1; clear hba1
      go_wp2_with fail
      refine (next_any _ _ _ (hs1.below (HB1.out _)) (by omega)).mono ?_
      rintro e w2 ⟨u, rfl, hu0, hu1, -, hs2, g2⟩
      obtain ⟨u, rfl⟩ := Int.eq_ofNat_of_zero_le hu0
      have hu3 : u < 3 := by have := hu1 (by omega); omega
      have ht := tab3_cell g2 hs1.lt u hu3
      generalize tab3 _ _ _ u = tv at ht
      have hu4 : (u : Int) < 3 := by omega
      have G2 := Lib.hid (grown_trans (grown_trans g1 (grown_of_below (HB1.out _))) g2)
      have S2 := Lib.hid hs2
      clear g2 g1 hs1 hs2 hu0 hu1
      go_wp2
      go_ret
      exact ⟨_, rfl, S2.out, G2.out⟩
    · have t0 : (y == 0) = false := by simp [hy]
      clear hy
      go_wp2_with fail
      refine (next_any _ _ _ hs1 (by omega)).mono ?_
      rintro e w2 ⟨u, rfl, -, -, -, hs2, g2⟩
      have G2 := Lib.hid (grown_trans g1 g2)
      have S2 := Lib.hid hs2
      clear g2 g1 hs1 hs2
      go_wp2
      go_ret
      exact ⟨_, rfl, S2.out, G2.out⟩
  · by_cases h2 : 24 < wd
    · skip
      go_enter Try.func52, Try.ntmps52
      go_wp2_with fail
      refine (next_any _ _ _ hs0 (by omega)).mono ?_
      rintro e w1 ⟨y, rfl, hy0, hy1, -, hs1, g1⟩
      replace g1 := grown_trans g0 g1
      by_cases hy : y = 0
      · subst hy
        have hba1 := fun ob => (Below.refl w1.heap.size w1).alloc (Nat.le_refl _) ob
        have HB1 := Lib.hid hba1; clear hba1
        go_wp2_with fail
        refine (next_any _ _ _ (hs1.below (HB1.out _)) (by omega)).mono ?_
        rintro e w2 ⟨u, rfl, hu0, hu1, -, hs2, g2⟩
        obtain ⟨u, rfl⟩ := Int.eq_ofNat_of_zero_le hu0
        have hu3 : u < 3 := by have := hu1 (by omega); omega
        have ht := tab3_cell g2 hs1.lt u hu3
        generalize tab3 _ _ _ u = tv at ht
        have hu4 : (u : Int) < 3 := by omega
        have G2 := Lib.hid (grown_trans (grown_trans g1 (grown_of_below (HB1.out _))) g2)
        have S2 := Lib.hid hs2
        clear g2 g1 hs1 hs2 hu0 hu1
        go_wp2
        go_ret
        exact ⟨_, rfl, S2.out, G2.out⟩
      · have t0 : (y == 0) = false := by simp [hy]
        clear hy
        go_wp2_with fail
        refine (next_any _ _ _ hs1 (by omega)).mono ?_
        rintro e w2 ⟨u, rfl, -, -, -, hs2, g2⟩
        have G2 := Lib.hid (grown_trans g1 g2)
        have S2 := Lib.hid hs2
        clear g2 g1 hs1 hs2
        go_wp2
        go_ret
        exact ⟨_, rfl, S2.out, G2.out⟩
    · obtain ⟨V, rfl⟩ := Int.eq_ofNat_of_zero_le (show 0 ≤ wd by omega)
      have hpw := pow40 V (by omega)
      go_enter Try.func52, Try.ntmps52
      go_wp2_with fail
      all_goals
        refine (next_any _ _ _ hs0 (by omega)).mono ?_
        rintro e w1 ⟨y, rfl, hy0, hy1, -, hs1, g1⟩
        replace g1 := grown_trans g0 g1
        by_cases hy : y = 0
        · subst hy
          have hba1 := fun ob => (Below.refl w1.heap.size w1).alloc (Nat.le_refl _) ob
          have HB1 := Lib.hid hba1; clear hba1
          go_wp2_with fail
          refine (next_any _ _ _ (hs1.below (HB1.out _)) (by omega)).mono ?_
          rintro e w2 ⟨u, rfl, hu0, hu1, -, hs2, g2⟩
          obtain ⟨u, rfl⟩ := Int.eq_ofNat_of_zero_le hu0
          have hu3 : u < 3 := by have := hu1 (by omega); omega
          have ht := tab3_cell g2 hs1.lt u hu3
          generalize tab3 _ _ _ u = tv at ht
          have hu4 : (u : Int) < 3 := by omega
          have G2 := Lib.hid (grown_trans (grown_trans g1 (grown_of_below (HB1.out _))) g2)
          have S2 := Lib.hid hs2
          clear g2 g1 hs1 hs2 hu0 hu1
          go_wp2
          go_ret
          exact ⟨_, rfl, S2.out, G2.out⟩
        · have t0 : (y == 0) = false := by simp [hy]
          clear hy
          go_wp2_with fail
          refine (next_any _ _ _ hs1 (by omega)).mono ?_
          rintro e w2 ⟨u, rfl, -, -, -, hs2, g2⟩
          have G2 := Lib.hid (grown_trans g1 g2)
          have S2 := Lib.hid hs2
          clear g2 g1 hs1 hs2
          go_wp2
          go_ret
          exact ⟨_, rfl, S2.out, G2.out⟩
end Go.Proofs.Ytadmpfmpmpdbeaa
