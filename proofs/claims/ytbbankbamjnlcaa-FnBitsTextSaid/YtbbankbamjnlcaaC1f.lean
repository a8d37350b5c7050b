/-
  FlipBits and DifferingBits, on both sides (the loops that write).
-/
import Derived.Test.YtbbankbamjnlcaaC1e
namespace Go.Proofs.Ytbbankbamjnlcaa
open Go.RowKit

theorem rises_at {n : Int} {ids : List Int} (h : rises n ids = true) {k : Nat} (hk : k < ids.length) : 0 ≤ ids.getD k 0 ∧ ids.getD k 0 < n := by
  have h1 := rises_iff.1 h
  have h2 := prev_low (k := k) fun i hi => h1 i (by omega)
  have h3 := h1 k hk
  exact ⟨by have := h3.1; omega, h3.2⟩
theorem flips_succ (xs ids : List Int) (k : Nat) (hk : k < ids.length) : flips xs (ids.take (k + 1)) = (flips xs (ids.take k)).set (ids.getD k 0).toNat (1 - (flips xs (ids.take k)).getD (ids.getD k 0).toNat 0) := by
  rw [take_succ' ids k hk, flips_snoc]

theorem flipBits_any (ao bo : Option Addr) (cap cap' : Nat) (xs ids : List Int) (w : World) (hr : Rd w ao xs.length xs) (hr' : Rd w bo ids.length ids) (hn : xs.length ≤ 1048576) (hn' : ids.length ≤ 1048576) :
    Calls Try.prog 38 #[.slice ao xs.length cap, .slice bo ids.length cap'] w (Makes2 2 w (flipBits xs ids).1 (flipBits xs ids).2) := by
  by_cases hb : isBits xs = true
  · have hbits := (isBits_iff.1 hb).2
    by_cases hs : rises xs.length ids = true
    · rw [fb_0 hb hs]
      have HB := Lib.hid hb; clear hb
      have HS := Lib.hid hs; clear hs
      have hfz := fun k => flips_bits xs (ids.take k) hbits
      have HZ := Lib.hid hfz; clear hfz hbits
      go_enter Try.func38, Try.ntmps38
      go_wp2_with (first
        | (go_at_call 47; refine (isBits_any _ _ _ _ _ hr (by omega)).mono ?_; rintro e w' ⟨rfl, rfl⟩; rw [HB.out])
        | (go_at_call 68; refine (areIndices_any _ _ _ _ _ _ hr' (by omega)).mono ?_; rintro e w' ⟨rfl, rfl⟩; rw [HS.out])
        | (at_make; refine make_cap _ rfl _ _ rfl w.heap.size Try.underlying24 info64 _ _ _ _ xs.length xs.length rfl rfl rfl rfl (Nat.le_refl _) (by omega) (Nat.le_refl _) ?_; intro w1 o1 b1)
        | (with_reducible refine copy_whole _ rfl (.tmp 20) (.tmp 21) rfl w.heap.size Try.underlying24 info64 _ _ _ _ rfl o1 (by simp) _ _ xs rfl (hr.below b1) ?_; intro w2 o2 b2))
      have hb2 : Below w.heap.size w w2 := b1.trans b2
      clear b1 b2 o1
      go_loopw [25] (fun i wr => ∃ k : Nat, k ≤ ids.length ∧ i = .int .i64 k ∧ Own 2 wr w.heap.size (.slice (some ⟨w.heap.size, 0, none⟩) xs.length xs.length) (flips xs (ids.take k)) ∧ Below w.heap.size w wr) (fun i _ => ids.length - (intOf i).toNat)
      case atStart => exact ⟨0, Nat.zero_le _, rfl, o2, hb2⟩
      case round =>
        clear o2 hb2
        obtain ⟨k, hk, rfl, hown, hbel⟩ := hrel
        by_cases hlt : k < ids.length
        · obtain ⟨b, off, rfl, hc⟩ := (hr'.below hbel).here (by omega)
          have hck := hc k hlt
          clear hc
          have hfs := flips_succ xs ids k hlt
          obtain ⟨hi0, hi1⟩ := rises_at HS.out hlt
          obtain ⟨x, hx⟩ : ∃ x, x = ids.getD k 0 := ⟨_, rfl⟩
          rw [← hx] at hck hi0 hi1 hfs
          obtain ⟨t, rfl⟩ := Int.eq_ofNat_of_zero_le hi0
          rw [Int.toNat_natCast] at hfs
          have hfl := flips_len xs (ids.take k)
          have hbit := HZ.out k _ (getD_mem (xs := flips xs (ids.take k)) (k := t) (by rw [hfl]; omega))
          obtain ⟨y, hy⟩ : ∃ y, y = (flips xs (ids.take k)).getD t 0 := ⟨_, rfl⟩
          have hxb := xor_bit ((flips xs (ids.take k)).getD t 0) hbit.1 hbit.2
          rw [← hxb] at hfs
          obtain ⟨hdst, hfz, hown', hbel'⟩ := own_store hown hfl (k := t) (by omega) (bits .xor .i64 ((flips xs (ids.take k)).getD t 0) 1)
          rw [← hfs] at hown'
          rw [← hy] at hdst hown' hbel'
          have HO := Lib.hid hown'; clear hown' hown
          have HBE := Lib.hid (hbel.trans hbel'); clear hbel hbel'
          clear hx hfs hbit hxb hy hfl
          go_wp2
          go_roundw
          case rel => exact ⟨k + 1, by omega, by go_num, HO.out, HBE.out⟩
          case measure => simp [intOf]; omega
        · have hkn : k = ids.length := by omega
          subst hkn
          have h := hown
          rw [List.take_length] at h
          have HO := Lib.hid h; clear hown h
          go_wp2
          go_ret2
          exact ⟨_, rfl, HO.out, hbel⟩
    · have hs' : rises xs.length ids = false := by simpa using hs
      rw [fb_2 hb hs']
      have HB := Lib.hid hb; clear hb hbits
      have HS := Lib.hid hs'; clear hs hs'
      go_enter Try.func38, Try.ntmps38
      go_wp2_with (first
        | (go_at_call 47; refine (isBits_any _ _ _ _ _ hr (by omega)).mono ?_; rintro e w' ⟨rfl, rfl⟩; rw [HB.out])
        | (go_at_call 68; refine (areIndices_any _ _ _ _ _ _ hr' (by omega)).mono ?_; rintro e w' ⟨rfl, rfl⟩; rw [HS.out]))
      go_ret2
      exact ⟨_, rfl, Own.nil_, Below.refl _ _⟩
  · have hb' : isBits xs = false := by simpa using hb
    rw [fb_1 hb']
    have HB := Lib.hid hb'; clear hb hb'
    go_enter Try.func38, Try.ntmps38
    go_wp2_with (go_at_call 47; refine (isBits_any _ _ _ _ _ hr (by omega)).mono ?_; rintro e w' ⟨rfl, rfl⟩; rw [HB.out])
    go_ret2
    exact ⟨_, rfl, Own.nil_, Below.refl _ _⟩

/-- spec.l01Flip. -/
theorem l01Flip_any (ao bo : Option Addr) (cap cap' : Nat) (xs ids : List Int) (w : World) (hr : Rd w ao xs.length xs) (hr' : Rd w bo ids.length ids) (hn : xs.length ≤ 1048576) (hn' : ids.length ≤ 1048576) (hbits : ∀ x ∈ xs, 0 ≤ x ∧ x ≤ 1) (hs : rises xs.length ids = true) :
    Calls Try.prog 70 #[.slice ao xs.length cap, .slice bo ids.length cap'] w (Makes 2 w (flips xs ids)) := by
  have HS := Lib.hid hs; clear hs
  have hfz := fun k => flips_bits xs (ids.take k) hbits
  have HZ := Lib.hid hfz; clear hfz hbits
  go_enter Try.func70, Try.ntmps70
  go_wp2_with (at_builtin; refine append_list _ rfl (.tmp 7) (.tmp 8) rfl w.heap.size Try.underlying24 info64 _ [] rfl (Own.of_alloc_nil (Nat.le_refl _)) _ _ _ xs rfl (hr.below ((Below.refl _ _).alloc (Nat.le_refl _) _)) (by simp; omega) (by simp) ?_; intro v1 w1 o1 b1)
  have b1' : Below w.heap.size w w1 := ((Below.refl _ _).alloc (Nat.le_refl _) _).trans b1
  rw [List.nil_append] at o1
  obtain ⟨ao1, c1, rfl, o1, -⟩ := o1.get
  clear b1
  go_loopw [6] (fun i wr => ∃ k : Nat, k ≤ ids.length ∧ i = .int .i64 k ∧ Own 2 wr w.heap.size (.slice ao1 xs.length c1) (flips xs (ids.take k)) ∧ Below w.heap.size w wr) (fun i _ => ids.length - (intOf i).toNat)
  case atStart => exact ⟨0, Nat.zero_le _, rfl, o1, b1'⟩
  case round =>
    clear o1 b1'
    obtain ⟨k, hk, rfl, hown, hbel⟩ := hrel
    by_cases hlt : k < ids.length
    · obtain ⟨b, off, rfl, hc⟩ := (hr'.below hbel).here (by omega)
      have hck := hc k hlt
      clear hc
      have hblt : b < w.heap.size := by
        obtain ⟨_, _, e, h⟩ := hr'.block (by omega)
        cases e; exact h
      have hfs := flips_succ xs ids k hlt
      obtain ⟨hi0, hi1⟩ := rises_at HS.out hlt
      obtain ⟨x, hx⟩ : ∃ x, x = ids.getD k 0 := ⟨_, rfl⟩
      rw [← hx] at hck hi0 hi1 hfs
      obtain ⟨t, rfl⟩ := Int.eq_ofNat_of_zero_le hi0
      rw [Int.toNat_natCast] at hfs
      have hfl := flips_len xs (ids.take k)
      have hbit := HZ.out k _ (getD_mem (xs := flips xs (ids.take k)) (k := t) (by rw [hfl]; omega))
      obtain ⟨y, hy⟩ : ∃ y, y = (flips xs (ids.take k)).getD t 0 := ⟨_, rfl⟩
      have hf := hown.form
      obtain ⟨ao', cap'', e, -, -, -, hcase⟩ := hf
      rw [hfl] at e
      cases e
      rcases hcase with hnil | ⟨g, rfl, hgb, hgl⟩
      · simp only [Value.slice.injEq] at hnil; omega
      · obtain ⟨hdst, hfz, hown', hbel'⟩ := own_store hown hfl (k := t) (by omega) (1 - (flips xs (ids.take k)).getD t 0)
        rw [← hfs] at hown'
        rw [← hy] at hdst hown' hbel' hbit
        have HO := Lib.hid hown'; clear hown' hown
        have HBE := Lib.hid (hbel.trans hbel'); clear hbel hbel'
        obtain ⟨hy0, hy1⟩ := hbit
        clear hx hfs hy hfl
        go_wp2
        go_region
        go_wp2
        go_roundw
        case rel => exact ⟨k + 1, by omega, by go_num, World.ownsRow.drew HO.out, HBE.out.drew⟩
        case measure => simp [intOf]; omega
    · have hkn : k = ids.length := by omega
      subst hkn
      have h := hown
      rw [List.take_length] at h
      have HO := Lib.hid h; clear hown h
      go_wp2
      go_ret
      exact ⟨_, rfl, HO.out, hbel⟩

theorem sFlipBits_any (ao bo : Option Addr) (cap cap' : Nat) (xs ids : List Int) (w : World) (hr : Rd w ao xs.length xs) (hr' : Rd w bo ids.length ids) (hn : xs.length ≤ 1048576) (hn' : ids.length ≤ 1048576) :
    Calls Try.prog 39 #[.slice ao xs.length cap, .slice bo ids.length cap'] w (Makes2 2 w (flipBits xs ids).1 (flipBits xs ids).2) := by
  by_cases hb : isBits xs = true
  · have hbits := (isBits_iff.1 hb).2
    have HZ := Lib.hid hbits; clear hbits
    by_cases hs : rises xs.length ids = true
    · rw [fb_0 hb hs]
      have HB := Lib.hid hb; clear hb
      have HS := Lib.hid hs; clear hs
      go_enter Try.func39, Try.ntmps39
      go_wp2_with (first
        | (go_at_call 46; refine (sIsBits_any _ _ _ _ _ hr (by omega)).mono ?_; rintro e w' ⟨rfl, rfl⟩; rw [HB.out])
        | (go_at_call 69; refine (l01Rises_any _ _ _ _ _ _ hr' (by omega) (by omega) (by omega)).mono ?_; rintro e w1 ⟨rfl, b1⟩; rw [HS.out])
        | (go_at_call 70; refine (l01Flip_any _ _ _ _ xs ids _ (hr.below b1) (hr'.below b1) hn hn' HZ.out HS.out).mono ?_; rintro e w3 m3; obtain ⟨v3, rfl, o3, b3⟩ := m3))
      go_ret2
      exact ⟨_, rfl, o3.more b1.size, below_two b1 b3⟩
    · have hs' : rises xs.length ids = false := by simpa using hs
      rw [fb_2 hb hs']
      have HB := Lib.hid hb; clear hb
      have HS := Lib.hid hs'; clear hs hs'
      go_enter Try.func39, Try.ntmps39
      go_wp2_with (first
        | (go_at_call 46; refine (sIsBits_any _ _ _ _ _ hr (by omega)).mono ?_; rintro e w' ⟨rfl, rfl⟩; rw [HB.out])
        | (go_at_call 69; refine (l01Rises_any _ _ _ _ _ _ hr' (by omega) (by omega) (by omega)).mono ?_; rintro e w1 ⟨rfl, b1⟩; rw [HS.out]))
      go_ret2
      exact ⟨_, rfl, Own.nil_, b1⟩
  · have hb' : isBits xs = false := by simpa using hb
    rw [fb_1 hb']
    have HB := Lib.hid hb'; clear hb hb'
    go_enter Try.func39, Try.ntmps39
    go_wp2_with (go_at_call 46; refine (sIsBits_any _ _ _ _ _ hr (by omega)).mono ?_; rintro e w' ⟨rfl, rfl⟩; rw [HB.out])
    go_ret2
    exact ⟨_, rfl, Own.nil_, Below.refl _ _⟩

/-- spec.l01Differ. -/
theorem l01Differ_any (ao bo : Option Addr) (n cap cap' : Nat) (xs ys : List Int) (w : World) (hr : Rd w ao n xs) (hr' : Rd w bo n ys) (hn : n ≤ 1048576) :
    Calls Try.prog 67 #[.slice ao n cap, .slice bo n cap'] w (Makes 2 w (diffTo xs ys n)) := by
  go_enter Try.func67, Try.ntmps67
  go_wp2
  go_loopw [5, 6] (fun v i wr => ∃ k : Nat, k ≤ n ∧ i = .int .i64 k ∧ Own 2 wr w.heap.size v (diffTo xs ys k) ∧ Below w.heap.size w wr) (fun _ i _ => n - (intOf i).toNat)
  case atStart => exact ⟨0, Nat.zero_le _, rfl, Own.of_alloc_nil (Nat.le_refl _), (Below.refl _ _).alloc (Nat.le_refl _) _⟩
  case round =>
    obtain ⟨k, hk, rfl, hown, hbel⟩ := hrel
    by_cases hlt : k < n
    · obtain ⟨b, off, rfl, hc⟩ := (hr.below hbel).here (by omega)
      obtain ⟨b', off', rfl, hc'⟩ := (hr'.below hbel).here (by omega)
      have hck := hc k hlt
      have hck' := hc' k hlt
      clear hc hc'
      have hbs := hbel.size
      have hdl := diffTo_len xs ys k
      have HN := Lib.hid (@diffTo_ne xs ys k)
      have HE := Lib.hid (@diffTo_eq xs ys k)
      obtain ⟨x, hx⟩ : ∃ x, x = xs.getD k 0 := ⟨_, rfl⟩
      obtain ⟨y, hy⟩ : ∃ y, y = ys.getD k 0 := ⟨_, rfl⟩
      rw [← hx] at hck HN HE
      rw [← hy] at hck' HN HE
      clear hx hy
      have HO := Lib.hid hown; clear hown
      have HBE := Lib.hid hbel; clear hbel
      by_cases hxy : (x != y) = true
      · go_wp2
        go_quiet (fail)
        have hls : (diffTo xs ys k).length ≤ 4294967296 := by omega
        go_wp2_with (at_builtin; (refine append_one _ rfl (.tmp 23) (.tmp 25) rfl w.heap.size Try.underlying24 info64 _ _ rfl (HO.out.below ((below_drewN' (Below.refl _ _) _).alloc (Nat.le_refl _) _)) _ _ _ rfl (new_cell rfl) hls (by simp; omega) ?_); intro v' w' hown hbel)
        have h := hown
        rw [← HN.out hxy] at h
        have HO' := Lib.hid h; clear h hown
        have HB' := Lib.hid hbel; clear hbel
        go_wp2
        go_roundw
        case rel => exact ⟨k + 1, by omega, by go_num, HO'.out, ((below_drewN' HBE.out _).alloc (by exact hbs) _).trans HB'.out⟩
        case measure => simp [intOf]; omega
      · have hxy' : (x != y) = false := by simpa using hxy
        clear hxy
        have h := HO.out
        rw [← HE.out hxy'] at h
        have HO' := Lib.hid h; clear h HO
        go_wp2
        go_quiet (fail)
        go_wp2
        go_roundw
        case rel => exact ⟨k + 1, by omega, by go_num, HO'.out.below (below_drewN' (Below.refl _ _) _), below_drewN' HBE.out _⟩
        case measure => simp [intOf]; omega
    · have hkn : k = n := by omega
      subst hkn
      have HO := Lib.hid hown; clear hown
      go_wp2
      go_ret
      exact ⟨_, rfl, HO.out, hbel⟩
end Go.Proofs.Ytbbankbamjnlcaa
