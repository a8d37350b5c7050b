/-
  Chapter 10: WorstDrift, ActiveVector, FindNode of the program and of its model.
-/
import Derived.Test.YtpghbbpidlfelaaN5
import Derived.Test.YtpghbbpidlfelaaFiv
namespace Go.Proofs.Ytpghbbpidlfelaa
open Go.RowKit

theorem wd_no {t : List Nd} {z : Int} (h : isTable t = false) : worstDrift t z = (0, 1) := by unfold worstDrift; rw [if_neg (by rw [h]; simp)]
theorem wd_range {t : List Nd} {z : Int} (h : isTable t = true) (h2 : inRange 0 65535 z = false) : worstDrift t z = (0, 2) := by unfold worstDrift; rw [if_pos h, if_neg (by rw [h2]; simp)]
theorem wd_yes {t : List Nd} {z : Int} (h : isTable t = true) (h2 : inRange 0 65535 z = true) : worstDrift t z = (driftIn t z, 0) := by unfold worstDrift; rw [if_pos h, if_pos h2]
theorem drift_ops {a z : Int} (h0 : 0 ≤ a * z) (h1 : a * z ≤ 131070000) : IntKind.i64.wrap (a * z) = a * z ∧ IntKind.i64.wrap (a * z + 1000000) = a * z + 1000000 ∧ IntKind.i64.wrap (a * z + 1000000 - 1) = a * z + 999999 ∧ IntKind.i64.wrap ((a * z + 999999).tdiv 1000000) = (a * z + 999999) / 1000000 ∧ IntKind.i64.wrap (a * z + 999999) = a * z + 999999 := by
  rw [Int.tdiv_eq_ediv_of_nonneg (by omega)]
  simp only [IntKind.wrap_i64]
  generalize a * z = m at *
  omega
/-- impl.WorstDrift. -/
theorem worstDrift_any (ao : Option Addr) (n cap : Nat) (t : List Nd) (z : Int) (w : World) (hr : RdN w ao n t) (hn : n ≤ cap) (hcap : cap ≤ 9223372036854775807) (hs : smallN t) :
    Calls Try.prog 24 #[.slice ao n cap, .int .i64 z] w fun e w' => e = .returned (.tuple #[.int .i64 (worstDrift t z).1, .int .i64 (worstDrift t z).2]) ∧ Below w.heap.size w w' := by
  have hcall := Lib.hid (isTable_any ao n cap t w hr hn hcap hs)
  rcases ht : isTable t with _ | _
  · rw [wd_no ht]
    clear hr hs
    go_enter Try.func24, Try.ntmps24
    go_wp2_with (go_at_call 21; refine hcall.out.mono ?_; rintro e w1 ⟨rfl, b1⟩; rw [ht])
    go_ret2
    exact ⟨rfl, b1⟩
  by_cases hz : z < 0
  · rw [wd_range ht (by rw [inRange, decide_eq_false (by omega), Bool.false_and])]
    clear hr hs
    go_enter Try.func24, Try.ntmps24
    go_wp2_with (go_at_call 21; refine hcall.out.mono ?_; rintro e w1 ⟨rfl, b1⟩; rw [ht])
    go_ret2
    exact ⟨rfl, b1⟩
  by_cases hz1 : 65535 < z
  · rw [wd_range ht (by rw [inRange, decide_eq_false (show ¬ z ≤ 65535 by omega), Bool.and_false])]
    clear hr hs
    go_enter Try.func24, Try.ntmps24
    go_wp2_with (go_at_call 21; refine hcall.out.mono ?_; rintro e w1 ⟨rfl, b1⟩; rw [ht])
    go_ret2
    exact ⟨rfl, b1⟩
  rw [wd_yes ht (inR10.2 (by omega))]
  have hsum := Lib.hid (fun W (h : RdN W ao n t) => driftSum_any ao n cap t W h (by omega) ht)
  have HR := Lib.hid hr
  obtain ⟨d0, d1⟩ := drift_in ht (a := z) (by omega) (by omega)
  obtain ⟨e1, e2, e3, e4, e5⟩ := drift_ops d0 d1
  have he : driftIn t z = (topOf t * z + 999999) / 1000000 := rfl
  have HE := Lib.hid he; clear he d0 d1 hr hs
  go_enter Try.func24, Try.ntmps24
  go_wp2_with (go_at_call 21; refine hcall.out.mono ?_; rintro e w1 ⟨rfl, b1⟩; rw [ht])
  have hr1 := HR.out.below b1
  have HB := Lib.hid b1; clear b1
  refine (hsum.out _ hr1).mono ?_
  rintro e w2 ⟨rfl, b2⟩
  clear hr1
  go_wp2_with fail
  go_ret2
  rw [HE.out]
  exact ⟨rfl, below_two HB.out b2⟩
set_option maxHeartbeats 1000000 in
/-- spec.WorstDrift. -/
theorem sWorstDrift_any (ao : Option Addr) (n cap : Nat) (t : List Nd) (z : Int) (w : World) (hr : RdN w ao n t) (hn : n ≤ cap) (hcap : cap ≤ 9223372036854775807) (hs : smallN t) :
    Calls Try.prog 25 #[.slice ao n cap, .int .i64 z] w fun e w' => e = .returned (.tuple #[.int .i64 (worstDrift t z).1, .int .i64 (worstDrift t z).2]) ∧ Below w.heap.size w w' := by
  have hcall := Lib.hid (sIsTable_any ao n cap t w hr hn hcap hs)
  rcases ht : isTable t with _ | _
  · rw [wd_no ht]
    clear hr hs
    go_enter Try.func25, Try.ntmps25
    go_wp2_with (go_at_call 22; refine hcall.out.mono ?_; rintro e w1 ⟨rfl, b1⟩; rw [ht])
    go_ret2
    exact ⟨rfl, b1⟩
  rcases hz : inRange 0 65535 z with _ | _
  · rw [wd_range ht hz]
    clear hr hs
    go_enter Try.func25, Try.ntmps25
    go_wp2_with (first
      | (go_at_call 22; refine hcall.out.mono ?_; rintro e w1 ⟨rfl, b1⟩; rw [ht])
      | (go_at_call 58; refine (l01In_any _ _ _ _).mono ?_; rintro e w' ⟨rfl, rfl⟩; rw [hz]))
    go_ret2
    exact ⟨rfl, b1⟩
  rw [wd_yes ht hz]
  have hz2 := inR10.1 hz
  have HR := Lib.hid hr
  have HL := Lib.hid hr.len
  have HT := Lib.hid ht
  have HZ := Lib.hid hz2
  clear hr hs hz2
  go_enter Try.func25, Try.ntmps25
  go_wp2_with (first
    | (go_at_call 22; refine hcall.out.mono ?_; rintro e w1 ⟨rfl, b1⟩; rw [ht])
    | (go_at_call 58; refine (l01In_any _ _ _ _).mono ?_; rintro e w' ⟨rfl, rfl⟩; rw [hz]))
  have HR1 := Lib.hid (HR.out.below b1)
  have HB := Lib.hid b1; clear b1 HR hcall
  go_loopw [6, 7, 8] (fun a b i wr => ∃ k : Nat, k ≤ n ∧ i = .int .i64 k ∧ a = .int .i64 (topTo t k).1 ∧ b = .int .i64 (topTo t k).2 ∧ wr = w1) (fun _ _ i _ => n - (intOf i).toNat)
  case atStart => exact ⟨0, Nat.zero_le _, rfl, rfl, rfl, rfl⟩
  case round =>
    obtain ⟨k, hk, rfl, rfl, rfl, rfl⟩ := hrel
    by_cases hlt : k < n
    · obtain ⟨g, off, rfl, hg, hx⟩ := HR1.out.at hlt
      have hst : topTo t (k + 1) = topStep (topTo t k) (ndOf t k).drift := rfl
      obtain ⟨x, hxe⟩ : ∃ x, x = ndOf t k := ⟨_, rfl⟩
      rw [← hxe] at hx hst
      obtain ⟨⟨a, b⟩, hab⟩ : ∃ q, q = topTo t k := ⟨_, rfl⟩
      rw [← hab] at hst ⊢
      have HST := Lib.hid hst; clear hst hxe hab
      obtain ⟨xi, xn, xf, xp⟩ := x
      obtain ⟨h0, h1, h2, h3⟩ := hx
      dsimp only at *
      by_cases c1 : a < xf
      · have HS1 := Lib.hid (show topTo t (k + 1) = (xf, a) from by rw [HST.out]; unfold topStep; rw [if_pos c1])
        go_wp2_with fail
        go_roundw
        case rel => exact ⟨k + 1, by omega, by go_num, by rw [HS1.out], by rw [HS1.out], trivial⟩
        case measure => simp [intOf]; omega
      · by_cases c2 : b < xf
        · have HS1 := Lib.hid (show topTo t (k + 1) = (a, xf) from by rw [HST.out]; unfold topStep; rw [if_neg c1, if_pos c2])
          go_wp2_with fail
          go_roundw
          case rel => exact ⟨k + 1, by omega, by go_num, by rw [HS1.out], by rw [HS1.out], trivial⟩
          case measure => simp [intOf]; omega
        · have HS1 := Lib.hid (show topTo t (k + 1) = (a, b) from by rw [HST.out]; unfold topStep; rw [if_neg c1, if_neg c2])
          go_wp2_with fail
          go_roundw
          case rel => exact ⟨k + 1, by omega, by go_num, by rw [HS1.out], by rw [HS1.out], trivial⟩
          case measure => simp [intOf]; omega
    · have hkn : k = n := by omega
      subst hkn
      have htop := top_in HT.out t.length (Nat.le_refl _)
      have hf : driftIn t z = (((topTo t t.length).1 + (topTo t t.length).2) * z + 999999) / 1000000 := rfl
      obtain ⟨d0, d1⟩ := drift_in HT.out (a := z) HZ.out.1 HZ.out.2
      unfold topOf at d0 d1
      rw [HL.out] at htop hf d0 d1
      obtain ⟨⟨a, b⟩, hab⟩ : ∃ q, q = topTo t k := ⟨_, rfl⟩
      rw [← hab] at htop hf d0 d1 ⊢
      have HF := Lib.hid hf; clear hf hab
      dsimp only at *
      have hw : IntKind.i64.wrap (a + b) = a + b := by rw [IntKind.wrap_i64]; omega
      have e0 : IntKind.i64.wrap ((a + b) * z) = (a + b) * z := by rw [IntKind.wrap_i64]; omega
      obtain ⟨-, -, -, e4, e5⟩ := drift_ops d0 d1
      clear htop d0 d1
      go_wp2_with fail
      go_ret2
      rw [HF.out]
      exact ⟨rfl, HB.out⟩
end Go.Proofs.Ytpghbbpidlfelaa
