/-
  DifferingBits, on both sides.
-/
import Derived.Test.YtbbankbamjnlcaaC1f
namespace Go.Proofs.Ytbbankbamjnlcaa
open Go.RowKit

theorem sDifferingBits_any (ao bo : Option Addr) (cap cap' : Nat) (xs ys : List Int) (w : World) (hr : Rd w ao xs.length xs) (hr' : Rd w bo ys.length ys) (hn : xs.length ≤ 1048576) (hn' : ys.length ≤ 1048576) :
    Calls Try.prog 36 #[.slice ao xs.length cap, .slice bo ys.length cap'] w (Makes2 2 w (differingBits xs ys).1 (differingBits xs ys).2) := by
  by_cases hb : isBits xs = true
  · by_cases hb2 : isBits ys = true
    · by_cases hl : xs.length = ys.length
      · rw [db_0 hb hb2 hl]
        rw [← hl] at hr' ⊢
        have HB := Lib.hid hb; clear hb
        have HB2 := Lib.hid hb2; clear hb2 hl hn'
        have hne : ((xs.length : Int) != (xs.length : Int)) = false := by simp
        go_enter Try.func36, Try.ntmps36
        go_wp2_with fail
        refine (sIsBits_any _ _ _ _ _ hr (by omega)).mono ?_
        rintro e w' ⟨rfl, rfl⟩
        rw [HB.out]
        go_wp2_with fail
        refine (sIsBits_any _ _ _ _ _ hr' (by omega)).mono ?_
        rintro e w' ⟨rfl, rfl⟩
        rw [HB2.out]
        go_wp2_with (go_at_call 67; refine (l01Differ_any _ _ _ _ _ xs ys _ hr hr' hn).mono ?_; rintro e w3 m3; obtain ⟨v3, rfl, o3, b3⟩ := m3)
        go_ret2
        exact ⟨_, rfl, o3, b3⟩
      · rw [db_5 hb hb2 hl]
        have HB := Lib.hid hb; clear hb
        have HB2 := Lib.hid hb2; clear hb2
        have hne : ((xs.length : Int) != (ys.length : Int)) = true := by simp; omega
        clear hl
        go_enter Try.func36, Try.ntmps36
        go_wp2_with fail
        refine (sIsBits_any _ _ _ _ _ hr (by omega)).mono ?_
        rintro e w' ⟨rfl, rfl⟩
        rw [HB.out]
        go_wp2_with fail
        refine (sIsBits_any _ _ _ _ _ hr' (by omega)).mono ?_
        rintro e w' ⟨rfl, rfl⟩
        rw [HB2.out]
        go_wp2
        go_ret2
        exact ⟨_, rfl, Own.nil_, Below.refl _ _⟩
    · have hb2' : isBits ys = false := by simpa using hb2
      rw [db_1b hb2']
      have HB := Lib.hid hb; clear hb
      have HB2 := Lib.hid hb2'; clear hb2 hb2'
      go_enter Try.func36, Try.ntmps36
      go_wp2_with fail
      refine (sIsBits_any _ _ _ _ _ hr (by omega)).mono ?_
      rintro e w' ⟨rfl, rfl⟩
      rw [HB.out]
      go_wp2_with fail
      refine (sIsBits_any _ _ _ _ _ hr' (by omega)).mono ?_
      rintro e w' ⟨rfl, rfl⟩
      rw [HB2.out]
      go_wp2
      go_ret2
      exact ⟨_, rfl, Own.nil_, Below.refl _ _⟩
  · have hb' : isBits xs = false := by simpa using hb
    rw [db_1a hb']
    have HB := Lib.hid hb'; clear hb hb'
    go_enter Try.func36, Try.ntmps36
    go_wp2_with (go_at_call 46; refine (sIsBits_any _ _ _ _ _ hr (by omega)).mono ?_; rintro e w' ⟨rfl, rfl⟩; rw [HB.out])
    go_ret2
    exact ⟨_, rfl, Own.nil_, Below.refl _ _⟩

theorem differingBits_any (ao bo : Option Addr) (cap cap' : Nat) (xs ys : List Int) (w : World) (hr : Rd w ao xs.length xs) (hr' : Rd w bo ys.length ys) (hn : xs.length ≤ 1048576) (hn' : ys.length ≤ 1048576) :
    Calls Try.prog 35 #[.slice ao xs.length cap, .slice bo ys.length cap'] w (Makes2 2 w (differingBits xs ys).1 (differingBits xs ys).2) := by
  by_cases hb : isBits xs = true
  · by_cases hb2 : isBits ys = true
    · by_cases hl : xs.length = ys.length
      · rw [db_0 hb hb2 hl]
        rw [← hl] at hr' ⊢
        have HB := Lib.hid hb; clear hb
        have HB2 := Lib.hid hb2; clear hb2 hl hn'
        obtain ⟨n, hn0⟩ : ∃ n, n = xs.length := ⟨_, rfl⟩
        rw [← hn0] at hr hr' hn ⊢
        clear hn0
        have hne : ((n : Int) != (n : Int)) = false := by simp
        go_enter Try.func35, Try.ntmps35
        go_wp2_with fail
        refine (isBits_any _ _ _ _ _ hr (by omega)).mono ?_
        rintro e w' ⟨rfl, rfl⟩
        rw [HB.out]
        go_wp2_with fail
        refine (isBits_any _ _ _ _ _ hr' (by omega)).mono ?_
        rintro e w' ⟨rfl, rfl⟩
        rw [HB2.out]
        go_wp2
        clear hne
        go_loopw [6, 23] (fun v i wr => ∃ k : Nat, k ≤ n ∧ i = .int .i64 k ∧ Own 2 wr w.heap.size v (diffTo xs ys k) ∧ Below w.heap.size w wr) (fun _ i _ => n - (intOf i).toNat)
        case atStart => exact ⟨0, Nat.zero_le _, rfl, Own.nil_, Below.refl _ _⟩
        case round =>
          obtain ⟨k, hk, rfl, hown, hbel⟩ := hrel
          by_cases hlt : k < n
          · obtain ⟨b, off, rfl, hc⟩ := (hr.below hbel).here (by omega)
            obtain ⟨b', off', rfl, hc'⟩ := (hr'.below hbel).here (by omega)
            have hck := hc k hlt
            have hck' := hc' k hlt
            clear hc hc'
            have hbs := hbel.size
            have hdl := diffTo_len xs ys k
            have HN := Lib.hid (@diffTo_ne xs ys k)
            have HE := Lib.hid (@diffTo_eq xs ys k)
            obtain ⟨x, hx⟩ : ∃ x, x = xs.getD k 0 := ⟨_, rfl⟩
            obtain ⟨y, hy⟩ : ∃ y, y = ys.getD k 0 := ⟨_, rfl⟩
            rw [← hx] at hck HN HE
            rw [← hy] at hck' HN HE
            clear hx hy
            have HO := Lib.hid hown; clear hown
            have HBE := Lib.hid hbel; clear hbel
            by_cases hxy : (x != y) = true
            · go_wp2
              go_quiet (fail)
              have hls : (diffTo xs ys k).length ≤ 4294967296 := by omega
              go_wp2_with (at_builtin; refine append_one _ rfl (.tmp 35) (.tmp 37) rfl w.heap.size Try.underlying24 info64 _ _ rfl (HO.out.below ((below_drewN' (Below.refl _ _) _).alloc (Nat.le_refl _) _)) _ _ _ rfl (new_cell rfl) hls (by simp; omega) ?_; intro v' w' hown hbel)
              have h := hown
              rw [← HN.out hxy] at h
              have HO' := Lib.hid h; clear h hown
              have HB' := Lib.hid hbel; clear hbel
              go_wp2
              go_roundw
              case rel => exact ⟨k + 1, by omega, by go_num, HO'.out, ((below_drewN' HBE.out _).alloc (by exact hbs) _).trans HB'.out⟩
              case measure => simp [intOf]; omega
            · have hxy' : (x != y) = false := by simpa using hxy
              clear hxy
              have h := HO.out
              rw [← HE.out hxy'] at h
              have HO' := Lib.hid h; clear h HO
              go_wp2
              go_quiet (fail)
              go_wp2
              go_roundw
              case rel => exact ⟨k + 1, by omega, by go_num, HO'.out.below (below_drewN' (Below.refl _ _) _), below_drewN' HBE.out _⟩
              case measure => simp [intOf]; omega
          · have hkn : k = n := by omega
            subst hkn
            have HO := Lib.hid hown; clear hown
            go_wp2
            go_ret2
            exact ⟨_, rfl, HO.out, hbel⟩
      · rw [db_5 hb hb2 hl]
        have HB := Lib.hid hb; clear hb
        have HB2 := Lib.hid hb2; clear hb2
        have hne : ((xs.length : Int) != (ys.length : Int)) = true := by simp; omega
        clear hl
        go_enter Try.func35, Try.ntmps35
        go_wp2_with fail
        refine (isBits_any _ _ _ _ _ hr (by omega)).mono ?_
        rintro e w' ⟨rfl, rfl⟩
        rw [HB.out]
        go_wp2_with fail
        refine (isBits_any _ _ _ _ _ hr' (by omega)).mono ?_
        rintro e w' ⟨rfl, rfl⟩
        rw [HB2.out]
        go_wp2
        go_ret2
        exact ⟨_, rfl, Own.nil_, Below.refl _ _⟩
    · have hb2' : isBits ys = false := by simpa using hb2
      rw [db_1b hb2']
      have HB := Lib.hid hb; clear hb
      have HB2 := Lib.hid hb2'; clear hb2 hb2'
      go_enter Try.func35, Try.ntmps35
      go_wp2_with fail
      refine (isBits_any _ _ _ _ _ hr (by omega)).mono ?_
      rintro e w' ⟨rfl, rfl⟩
      rw [HB.out]
      go_wp2_with fail
      refine (isBits_any _ _ _ _ _ hr' (by omega)).mono ?_
      rintro e w' ⟨rfl, rfl⟩
      rw [HB2.out]
      go_wp2
      go_ret2
      exact ⟨_, rfl, Own.nil_, Below.refl _ _⟩
  · have hb' : isBits xs = false := by simpa using hb
    rw [db_1a hb']
    have HB := Lib.hid hb'; clear hb hb'
    go_enter Try.func35, Try.ntmps35
    go_wp2_with (go_at_call 47; refine (isBits_any _ _ _ _ _ hr (by omega)).mono ?_; rintro e w' ⟨rfl, rfl⟩; rw [HB.out])
    go_ret2
    exact ⟨_, rfl, Own.nil_, Below.refl _ _⟩
end Go.Proofs.Ytbbankbamjnlcaa
