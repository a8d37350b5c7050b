/-
  Chapter 3: SumErrors on both sides.
-/
import Derived.Test.YtfmbefmiglpijaaC3a
import Derived.BigRegion
import Derived.Deep.RegionHeld3
namespace Go.Proofs.Ytfmbefmiglpijaa
open Go.RowKit

theorem se_1a {xs ys : List Int} (h : isBits xs = false) : sumErrors xs ys = ([], 1) := by unfold sumErrors; rw [if_pos (.inl h)]
theorem se_1b {xs ys : List Int} (h : isBits ys = false) : sumErrors xs ys = ([], 1) := by unfold sumErrors; rw [if_pos (.inr h)]
theorem se_5 {xs ys : List Int} (h1 : isBits xs = true) (h2 : isBits ys = true) (h : xs.length ≠ ys.length) : sumErrors xs ys = ([], 5) := by unfold sumErrors; rw [if_neg (by simp [h1, h2]), if_pos h]
theorem se_0 {xs ys : List Int} (h1 : isBits xs = true) (h2 : isBits ys = true) (h : xs.length = ys.length) : sumErrors xs ys = (xorL xs ys, 0) := by unfold sumErrors; rw [if_neg (by simp [h1, h2]), if_neg (by simp [h])]
theorem sumErrors_len (xs ys : List Int) : (sumErrors xs ys).1.length ≤ 8192 := by
  unfold sumErrors
  split
  · simp
  · split
    · simp
    · rename_i h1 h2
      obtain ⟨ha, hb⟩ := not_or.1 h1
      have hb : isBits ys = true := by simpa using hb
      have hl : xs.length = ys.length := by simpa using h2
      rw [xorL_len _ _ hl]
      exact (isBits_iff.1 hb).1
theorem xorL_getD (xs ys : List Int) (k : Nat) (h1 : k < xs.length) (h2 : k < ys.length) : (xorL xs ys).getD k 0 = bits .xor .i64 (xs.getD k 0) (ys.getD k 0) := by
  simp [xorL, List.getD, h1, h2, List.getElem?_zipWith]
theorem xorL_take (xs ys : List Int) (k : Nat) (h : xs.length = ys.length) (hk : k < xs.length) : (xorL xs ys).take (k + 1) = (xorL xs ys).take k ++ [bits .xor .i64 (xs.getD k 0) (ys.getD k 0)] := by
  rw [take_succ' _ k (by rw [xorL_len _ _ h]; omega), xorL_getD xs ys k hk (by omega)]
theorem sumErrors_any (ao bo : Option Addr) (n m cap cap' : Nat) (xs ys : List Int) (w : World) (hr : Rd w ao n xs) (hr' : Rd w bo m ys) (hn : n ≤ 1048576) (hn' : m ≤ 1048576) :
    Calls Try.prog 36 #[.slice ao n cap, .slice bo m cap'] w (Makes2 2 w (sumErrors xs ys).1 (sumErrors xs ys).2) := by
  obtain rfl : xs.length = n := hr.len
  obtain rfl : ys.length = m := hr'.len
  by_cases hb : isBits xs = true
  · by_cases hb2 : isBits ys = true
    · by_cases hl : xs.length = ys.length
      · rw [se_0 hb hb2 hl]
        have hxl := xorL_len xs ys hl
        have hget := fun k (hk : k < ys.length) => xorL_getD xs ys k (by omega) hk
        rw [hl] at hr hn ⊢
        have HB := Lib.hid hb; clear hb
        have HB2 := Lib.hid hb2; clear hb2 hl hn'
        obtain ⟨n, hn0⟩ : ∃ n, n = ys.length := ⟨_, rfl⟩
        rw [← hn0] at hr hr' hn hxl hget ⊢
        clear hn0
        have hne : ((n : Int) != (n : Int)) = false := by simp
        obtain ⟨zs, hzs⟩ : ∃ zs, zs = xorL xs ys := ⟨_, rfl⟩
        rw [← hzs] at hxl hget ⊢
        clear hzs
        have HXL := Lib.hid hxl; clear hxl
        have HG := Lib.hid hget; clear hget
        go_enter Try.func36, Try.ntmps36
        go_wp2_with fail
        refine (isBits_any _ _ _ _ _ hr (by omega)).mono ?_
        rintro e w' ⟨rfl, rfl⟩
        rw [HB.out]
        go_wp2_with fail
        refine (isBits_any _ _ _ _ _ hr' (by omega)).mono ?_
        rintro e w' ⟨rfl, rfl⟩
        rw [HB2.out]
        go_wp2_with (at_make; refine make_cap _ rfl _ _ rfl w.heap.size Try.underlying26 info64 _ _ _ _ n n rfl rfl rfl rfl (Nat.le_refl _) (by omega) (Nat.le_refl _) ?_; intro w1 o1 b1)
        have o1' : Own 2 w1 w.heap.size (.slice (some ⟨w.heap.size, 0, none⟩) n n) (fillTo zs 0) := by rw [fillTo_zero, HXL.out]; exact o1
        clear o1 hne
        go_loopw [26] (fun i wr => ∃ k : Nat, k ≤ n ∧ i = .int .i64 k ∧ Own 2 wr w.heap.size (.slice (some ⟨w.heap.size, 0, none⟩) n n) (fillTo zs k) ∧ Below w.heap.size w wr) (fun i _ => n - (intOf i).toNat)
        case atStart => exact ⟨0, Nat.zero_le _, rfl, o1', b1⟩
        case round =>
          clear o1' b1
          obtain ⟨k, hk, rfl, hown, hbel⟩ := hrel
          by_cases hlt : k < n
          · obtain ⟨b, off, rfl, hc⟩ := (hr.below hbel).here (by omega)
            obtain ⟨b', off', rfl, hc'⟩ := (hr'.below hbel).here (by omega)
            have hck := hc k hlt
            have hck' := hc' k hlt
            have hlk : (k : Int) < (n : Int) := by omega
            clear hc hc'
            have hky : k < zs.length := by rw [HXL.out]; exact hlt
            have hfl := fillTo_len zs k (by omega)
            have hzg := HG.out k hlt
            obtain ⟨x, hx⟩ : ∃ x, x = xs.getD k 0 := ⟨_, rfl⟩
            obtain ⟨y, hy⟩ : ∃ y, y = ys.getD k 0 := ⟨_, rfl⟩
            rw [← hx] at hck hzg
            rw [← hy] at hck' hzg
            clear hx hy
            obtain ⟨hdst, hfz, hown', hbel'⟩ := own_store hown (hfl.trans HXL.out) hlt (zs.getD k 0)
            rw [fillTo_succ zs k hky, hzg] at hown'
            rw [hzg] at hbel'
            obtain ⟨z, hz⟩ : ∃ z, z = (fillTo zs k).getD k 0 := ⟨_, rfl⟩
            rw [← hz] at hdst
            have HO := Lib.hid hown'; clear hown' hown
            have HBE := Lib.hid (hbel.trans hbel'); clear hbel hbel' hz hfl hky hzg
            go_wp2
            go_region
            go_wp2
            go_roundw
            case rel => exact ⟨k + 1, by omega, by go_num, HO.out.below (below_drewN' (Below.refl _ _) 1), below_drewN' HBE.out 1⟩
            case measure => simp [intOf]; omega
          · have hkn : k = n := by omega
            subst hkn
            have h := hown
            rw [← HXL.out, fillTo_all, HXL.out] at h
            have HO := Lib.hid h; clear hown h
            go_wp2
            go_ret2
            exact ⟨_, rfl, HO.out, hbel⟩
      · rw [se_5 hb hb2 hl]
        have HB := Lib.hid hb; clear hb
        have HB2 := Lib.hid hb2; clear hb2
        have hne : ((xs.length : Int) != (ys.length : Int)) = true := by simp; omega
        clear hl
        go_enter Try.func36, Try.ntmps36
        go_wp2_with fail
        refine (isBits_any _ _ _ _ _ hr (by omega)).mono ?_
        rintro e w' ⟨rfl, rfl⟩
        rw [HB.out]
        go_wp2_with fail
        refine (isBits_any _ _ _ _ _ hr' (by omega)).mono ?_
        rintro e w' ⟨rfl, rfl⟩
        rw [HB2.out]
        go_wp2
        go_ret2
        exact ⟨_, rfl, Own.nil_, Below.refl _ _⟩
    · have hb2' : isBits ys = false := by simpa using hb2
      rw [se_1b hb2']
      have HB := Lib.hid hb; clear hb
      have HB2 := Lib.hid hb2'; clear hb2 hb2'
      go_enter Try.func36, Try.ntmps36
      go_wp2_with fail
      refine (isBits_any _ _ _ _ _ hr (by omega)).mono ?_
      rintro e w' ⟨rfl, rfl⟩
      rw [HB.out]
      go_wp2_with fail
      refine (isBits_any _ _ _ _ _ hr' (by omega)).mono ?_
      rintro e w' ⟨rfl, rfl⟩
      rw [HB2.out]
      go_wp2
      go_ret2
      exact ⟨_, rfl, Own.nil_, Below.refl _ _⟩
  · have hb' : isBits xs = false := by simpa using hb
    rw [se_1a hb']
    have HB := Lib.hid hb'; clear hb hb'
    go_enter Try.func36, Try.ntmps36
    go_wp2_with fail
    refine (isBits_any _ _ _ _ _ hr (by omega)).mono ?_
    rintro e w' ⟨rfl, rfl⟩
    rw [HB.out]
    go_wp2
    go_ret2
    exact ⟨_, rfl, Own.nil_, Below.refl _ _⟩

theorem sSumErrors_any (ao bo : Option Addr) (n m cap cap' : Nat) (xs ys : List Int) (w : World) (hr : Rd w ao n xs) (hr' : Rd w bo m ys) (hn : n ≤ 1048576) (hn' : m ≤ 1048576) :
    Calls Try.prog 37 #[.slice ao n cap, .slice bo m cap'] w (Makes2 2 w (sumErrors xs ys).1 (sumErrors xs ys).2) := by
  obtain rfl : xs.length = n := hr.len
  obtain rfl : ys.length = m := hr'.len
  by_cases hb : isBits xs = true
  · by_cases hb2 : isBits ys = true
    · by_cases hl : xs.length = ys.length
      · rw [se_0 hb hb2 hl]
        have hxl := xorL_len xs ys hl
        have hstep := fun k (hk : k < ys.length) => xorL_take xs ys k hl (by omega)
        rw [hl] at hr hn ⊢
        have HB := Lib.hid hb; clear hb
        have HB2 := Lib.hid hb2; clear hb2 hl hn'
        obtain ⟨n, hn0⟩ : ∃ n, n = ys.length := ⟨_, rfl⟩
        rw [← hn0] at hr hr' hn hxl hstep ⊢
        clear hn0
        have hne : ((n : Int) != (n : Int)) = false := by simp
        obtain ⟨zs, hzs⟩ : ∃ zs, zs = xorL xs ys := ⟨_, rfl⟩
        rw [← hzs] at hxl hstep ⊢
        clear hzs
        have HXL := Lib.hid hxl; clear hxl
        have HG := Lib.hid hstep; clear hstep
        go_enter Try.func37, Try.ntmps37
        go_wp2_with fail
        refine (sIsBits_any _ _ _ _ _ hr (by omega)).mono ?_
        rintro e w' ⟨rfl, rfl⟩
        rw [HB.out]
        go_wp2_with fail
        refine (sIsBits_any _ _ _ _ _ hr' (by omega)).mono ?_
        rintro e w' ⟨rfl, rfl⟩
        rw [HB2.out]
        go_wp2
        clear hne
        go_loopw [6, 7] (fun v i wr => ∃ k : Nat, k ≤ n ∧ i = .int .i64 k ∧ Own 2 wr w.heap.size v (zs.take k) ∧ Below w.heap.size w wr) (fun _ i _ => n - (intOf i).toNat)
        case atStart => exact ⟨0, Nat.zero_le _, rfl, Own.of_alloc_nil (Nat.le_refl _), (Below.refl _ _).alloc (Nat.le_refl _) _⟩
        case round =>
          obtain ⟨k, hk, rfl, hown, hbel⟩ := hrel
          by_cases hlt : k < n
          · obtain ⟨b, off, rfl, hc⟩ := hr.here (by omega)
            obtain ⟨b', off', rfl, hc'⟩ := hr'.here (by omega)
            have hck := hc k hlt
            have hck' := hc' k hlt
            have hblt := World.block_lt_of_cell? _ _ hck
            have hblt' := World.block_lt_of_cell? _ _ hck'
            have hlk : (k : Int) < (n : Int) := by omega
            clear hc hc'
            have hzg := HG.out k hlt
            obtain ⟨x, hx⟩ : ∃ x, x = xs.getD k 0 := ⟨_, rfl⟩
            obtain ⟨y, hy⟩ : ∃ y, y = ys.getD k 0 := ⟨_, rfl⟩
            rw [← hx] at hck hzg
            rw [← hy] at hck' hzg
            clear hx hy
            have hll : (zs.take k).length ≤ 4294967296 := by rw [List.length_take, HXL.out]; omega
            have hwr := hbel.size
            have hS : ∀ w', Below w.heap.size wr w' → w'.cell? ⟨b, off + k, none⟩ = some (.int .i64 x) ∧ w'.cell? ⟨b', off' + k, none⟩ = some (.int .i64 y) := fun w' hb =>
              ⟨((hbel.trans hb).cell (p := ⟨b, off + k, none⟩) hblt).trans hck, ((hbel.trans hb).cell (p := ⟨b', off' + k, none⟩) hblt').trans hck'⟩
            have HSS := Lib.hid hS; clear hS hck hck'
            have HOW := Lib.hid hown; clear hown
            have HBE := Lib.hid hbel; clear hbel
            have HLL := Lib.hid hll; clear hll
            have HZG := Lib.hid hzg; clear hzg
            go_wp2
            go_region_held3 (fun w' => w'.cell? ⟨b, off + k, none⟩ = some (.int .i64 x) ∧ w'.cell? ⟨b', off' + k, none⟩ = some (.int .i64 y))
              (first
                | exact HSS.out _ (Below.refl _ _).drew
                | exact HSS.out _ (((Below.refl wr.heap.size wr).drew.alloc (by simp) _).mono hwr)
                | exact HSS.out _ (((Below.refl wr.heap.size wr).alloc (Nat.le_refl _) _).drew.mono hwr)
                | exact HSS.out _ B5.out)
              (first
                | (refine step_append_one (by rfl) (.tmp 28) (.tmp 38) (by rfl) w.heap.size Try.underlying26 info64 _ _ (by rfl) (HOW.out.below (((Below.refl wr.heap.size wr).drew.alloc (by simp) _))) _ _ _ (by rfl) (new_cell rfl) HLL.out (by simp; omega) ?_; intro v5 w5 o5 b5; have B5 := Lib.hid ((((Below.refl wr.heap.size wr).drew.alloc (by simp) _).mono hwr).trans b5); have O5 := Lib.hid o5; clear o5 b5))
            go_wp2
            go_roundw
            case rel => exact ⟨k + 1, by omega, by go_num, by rw [HZG.out]; exact O5.out, HBE.out.trans B5.out⟩
            case measure => simp [intOf]; omega
          · have hkn : k = n := by omega
            subst hkn
            have h := hown
            rw [← HXL.out, List.take_length] at h
            have HO := Lib.hid h; clear hown h
            go_wp2
            go_ret2
            exact ⟨_, rfl, HO.out, hbel⟩
      · rw [se_5 hb hb2 hl]
        have HB := Lib.hid hb; clear hb
        have HB2 := Lib.hid hb2; clear hb2
        have hne : ((xs.length : Int) != (ys.length : Int)) = true := by simp; omega
        clear hl
        go_enter Try.func37, Try.ntmps37
        go_wp2_with fail
        refine (sIsBits_any _ _ _ _ _ hr (by omega)).mono ?_
        rintro e w' ⟨rfl, rfl⟩
        rw [HB.out]
        go_wp2_with fail
        refine (sIsBits_any _ _ _ _ _ hr' (by omega)).mono ?_
        rintro e w' ⟨rfl, rfl⟩
        rw [HB2.out]
        go_wp2
        go_ret2
        exact ⟨_, rfl, Own.nil_, Below.refl _ _⟩
    · have hb2' : isBits ys = false := by simpa using hb2
      rw [se_1b hb2']
      have HB := Lib.hid hb; clear hb
      have HB2 := Lib.hid hb2'; clear hb2 hb2'
      go_enter Try.func37, Try.ntmps37
      go_wp2_with fail
      refine (sIsBits_any _ _ _ _ _ hr (by omega)).mono ?_
      rintro e w' ⟨rfl, rfl⟩
      rw [HB.out]
      go_wp2_with fail
      refine (sIsBits_any _ _ _ _ _ hr' (by omega)).mono ?_
      rintro e w' ⟨rfl, rfl⟩
      rw [HB2.out]
      go_wp2
      go_ret2
      exact ⟨_, rfl, Own.nil_, Below.refl _ _⟩
  · have hb' : isBits xs = false := by simpa using hb
    rw [se_1a hb']
    have HB := Lib.hid hb'; clear hb hb'
    go_enter Try.func37, Try.ntmps37
    go_wp2_with fail
    refine (sIsBits_any _ _ _ _ _ hr (by omega)).mono ?_
    rintro e w' ⟨rfl, rfl⟩
    rw [HB.out]
    go_wp2
    go_ret2
    exact ⟨_, rfl, Own.nil_, Below.refl _ _⟩
end Go.Proofs.Ytfmbefmiglpijaa
