/-
  BitsToBytes, on both sides.
  FlipBits and DifferingBits, on both sides.
  FlipBits and DifferingBits, on both sides (the loops that write).
  DifferingBits, on both sides.
  BitsText and ReadBits, on both sides.
-/
import Derived.Test.YtfmbefmiglpijaaOne
import Derived.Test.YtfmbefmiglpijaaBase
import Derived.BigRegion
namespace Go.Proofs.Ytfmbefmiglpijaa
section
open Go.RowKit

theorem bytesTo_len (xs : List Int) (j : Nat) : (bytesTo xs j).length = j := by simp [bytesTo]
theorem bytesTo_succ (xs : List Int) (j : Nat) : bytesTo xs (j + 1) = bytesTo xs j ++ [numOf ((xs.drop (8 * j)).take 8)] := by simp [bytesTo, List.range_succ]
theorem bytesTo_getD (xs : List Int) (m k : Nat) (h : k < m) : (bytesTo xs m).getD k 0 = numOf ((xs.drop (8 * k)).take 8) := by
  simp [bytesTo, List.getD, h]
theorem bi_1 {xs : List Int} (h : isBits xs = false) : bitsToBytes xs = ([], 1) := by simp [bitsToBytes, h]
theorem bi_5 {xs : List Int} (h : isBits xs = true) (h2 : xs.length % 8 ≠ 0) : bitsToBytes xs = ([], 5) := by
  unfold bitsToBytes; rw [if_neg (by simp [h]), if_pos h2]
theorem bi_0 {xs : List Int} (h : isBits xs = true) (h2 : xs.length % 8 = 0) : bitsToBytes xs = (bytesTo xs (xs.length / 8), 0) := by
  unfold bitsToBytes; rw [if_neg (by simp [h]), if_neg (by omega)]

end

section
open Go.RowKit

theorem quiet_left {P : Program} {f : FuncId} {args : Array Value} {w : World} {n : Nat} {v : Value}
    (h : Calls P f args (w.drewN n) fun e w' => e = .returned v ∧ w.drewN n = w') : Calls P f args (w.drewN n) fun e w'' => e = .returned v ∧ ∃ m, w'' = w.drewN m :=
  h.mono fun _ _ ⟨he, hm⟩ => ⟨he, n, hm.symm⟩

/-- impl.areIndices. -/
theorem areIndices_any (ao : Option Addr) (n cap : Nat) (ids : List Int) (m : Int) (w : World) (hr : Rd w ao n ids) (hn : n ≤ 9223372036854775807) :
    Calls Try.prog 64 #[.slice ao n cap, .int .i64 m] w fun e w' => e = .returned (.bool (rises m ids)) ∧ w = w' := by
  obtain ⟨hlen, hat⟩ := hr
  have HL := Lib.hid hlen; clear hlen
  have HA := Lib.hid hat; clear hat
  go_enter Try.func64, Try.ntmps64
  go_wp2
  go_loop [5, 10] (fun v i => ∃ k : Nat, k ≤ n ∧ i = .int .i64 k ∧ v = .int .i64 (prev ids k) ∧ Hid (∀ i, i < k → stepOk m ids i)) (fun _ i => n - (intOf i).toNat)
  case atStart => exact ⟨0, Nat.zero_le _, rfl, rfl, fun i hi => absurd hi (by omega)⟩
  case round =>
    obtain ⟨k, hk, rfl, rfl, hall⟩ := hrel
    by_cases hlt : k < n
    · obtain ⟨b, off, rfl, hc⟩ := HA.out (by omega)
      have hck := hc k hlt
      clear hc HA
      have hkx : k < ids.length := by rw [HL.out]; exact hlt
      have hps := prev_succ ids k
      obtain ⟨x, hx⟩ : ∃ x, x = ids.getD k 0 := ⟨_, rfl⟩
      obtain ⟨p, hp⟩ : ∃ p, p = prev ids k := ⟨_, rfl⟩
      have hso : stepOk m ids k ↔ p < x ∧ x < m := by unfold stepOk; rw [← hp, ← hx]
      rw [← hx] at hck hps
      rw [← hp]
      have HX := Lib.hid hso; clear hso
      have HK := Lib.hid hkx; clear hkx
      have HP := Lib.hid hps; clear hps hp hx
      by_cases h0 : x ≤ p
      · go_wp2
        go_ret
        exact ⟨ret_bool (rises_no HK.out (fun h => by have := HX.out.1 h; omega)).symm, rfl⟩
      · by_cases h1 : m ≤ x
        · go_wp2
          go_ret
          exact ⟨ret_bool (rises_no HK.out (fun h => by have := HX.out.1 h; omega)).symm, rfl⟩
        · go_wp2
          go_round
          case rel => exact ⟨k + 1, by omega, by go_num, by rw [HP.out], stepOk_succ hall.out (HX.out.2 ⟨by omega, by omega⟩)⟩
          case measure => simp [intOf]; omega
    · have hkn : k = n := by omega
      subst hkn
      have hfin := rises_yes (n := m) (ids := ids) (by rw [HL.out]; exact hall.out)
      have HF := Lib.hid hfin; clear hfin
      go_wp2
      go_ret
      exact ⟨ret_bool HF.out.symm, rfl⟩

/-- spec.l01Rises. -/
theorem l01Rises_any (ao : Option Addr) (n cap : Nat) (ids : List Int) (m : Int) (w : World) (hr : Rd w ao n ids) (hn : n ≤ 9223372036854775807) (hm : 0 ≤ m) (hm2 : m ≤ 4294967296) :
    Calls Try.prog 89 #[.slice ao n cap, .int .i64 m] w fun e w' => e = .returned (.bool (rises m ids)) ∧ Below w.heap.size w w' := by
  have hlen := hr.len
  have HL := Lib.hid hlen; clear hlen
  go_enter Try.func89, Try.ntmps89
  go_wp2
  go_loopw [5] (fun i wr => ∃ k : Nat, k ≤ n ∧ i = .int .i64 k ∧ Hid (∀ i, i < k → stepOk m ids i) ∧ Below w.heap.size w wr) (fun i _ => n - (intOf i).toNat)
  case atStart => exact ⟨0, Nat.zero_le _, rfl, fun i hi => absurd hi (by omega), Below.refl _ _⟩
  case round =>
    obtain ⟨k, hk, rfl, hall, hbel⟩ := hrel
    by_cases hlt : k < n
    · have hrr := hr.below hbel
      obtain ⟨b, off, rfl, hc⟩ := hrr.here (by omega)
      have hck := hc k hlt
      have hcp : 0 < k → wr.cell? ⟨b, off + (k - 1), none⟩ = some (.int .i64 (ids.getD (k - 1) 0)) := fun _ => hc (k - 1) (by omega)
      clear hc
      have hkx : k < ids.length := by rw [HL.out]; exact hlt
      have hpl := prev_low hall.out
      obtain ⟨x, hx⟩ : ∃ x, x = ids.getD k 0 := ⟨_, rfl⟩
      have hso : stepOk m ids k ↔ prev ids k < x ∧ x < m := by unfold stepOk; rw [← hx]
      rw [← hx] at hck
      have HX := Lib.hid hso; clear hso hx
      have HK := Lib.hid hkx; clear hkx
      have HB := Lib.hid hbel; clear hbel
      by_cases hin : 0 ≤ x ∧ x ≤ m - 1
      · obtain ⟨h0, h1⟩ := hin
        rcases k with _ | k
        · rw [Nat.add_zero] at hck
          clear hcp
          have hso : stepOk m ids 0 := HX.out.2 ⟨by rw [prev_zero]; omega, by omega⟩
          have HS := Lib.hid hso; clear hso
          go_wp2
          go_quiet ((go_at_call 76; exact quiet_left (l01In_yes _ _ _ _ h0 h1)))
          go_wp2
          go_roundw
          case rel => exact ⟨1, by omega, rfl, stepOk_succ hall.out HS.out, below_drewN' HB.out _⟩
          case measure => simp [intOf]; omega
        · have hcq := hcp (by omega)
          rw [Nat.add_sub_cancel] at hcq
          clear hcp
          have hps := prev_succ ids k
          obtain ⟨p, hp⟩ : ∃ p, p = ids.getD k 0 := ⟨_, rfl⟩
          rw [← hp] at hcq hps
          have hso : stepOk m ids (k + 1) ↔ p < x ∧ x < m := by rw [← hps]; exact HX.out
          have HX := Lib.hid hso; clear hso hps hp
          have hgt : (0 : Int) < ((k + 1 : Nat) : Int) := by omega
          by_cases hxp : x ≤ p
          · go_wp2
            go_quiet ((go_at_call 76; exact quiet_left (l01In_yes _ _ _ _ h0 h1)))
            go_wp2
            go_ret
            exact ⟨ret_bool (rises_no HK.out (fun h => by have := HX.out.1 h; omega)).symm, below_drewN' HB.out _⟩
          · have hd : decide (x ≤ p) = false := decide_eq_false hxp
            have hso2 : stepOk m ids (k + 1) := HX.out.2 ⟨by omega, by omega⟩
            have HS := Lib.hid hso2; clear hso2
            go_wp2
            go_quiet ((go_at_call 76; exact quiet_left (l01In_yes _ _ _ _ h0 h1)))
            go_wp2
            go_roundw
            case rel => exact ⟨k + 1 + 1, by omega, by go_num, stepOk_succ hall.out HS.out, below_drewN' HB.out _⟩
            case measure => simp [intOf]; omega
      · have hin' : x < 0 ∨ m - 1 < x := by omega
        have HI := Lib.hid hin'; clear hin hin'
        go_wp2
        go_quiet ((go_at_call 76; exact quiet_left (l01In_no _ _ _ _ HI.out)))
        go_wp2
        go_ret
        exact ⟨ret_bool (rises_no HK.out (fun h => by have := HX.out.1 h; have := HI.out; omega)).symm, by have := HB.out; exact below_drewN' this _⟩
    · have hkn : k = n := by omega
      subst hkn
      have hfin := rises_yes (n := m) (ids := ids) (by rw [HL.out]; exact hall.out)
      have HF := Lib.hid hfin; clear hfin
      go_wp2
      go_ret
      exact ⟨ret_bool HF.out.symm, hbel⟩
end

section
open Go.RowKit

theorem rises_at {n : Int} {ids : List Int} (h : rises n ids = true) {k : Nat} (hk : k < ids.length) : 0 ≤ ids.getD k 0 ∧ ids.getD k 0 < n := by
  have h1 := rises_iff.1 h
  have h2 := prev_low (k := k) fun i hi => h1 i (by omega)
  have h3 := h1 k hk
  exact ⟨by have := h3.1; omega, h3.2⟩
theorem flips_succ (xs ids : List Int) (k : Nat) (hk : k < ids.length) : flips xs (ids.take (k + 1)) = (flips xs (ids.take k)).set (ids.getD k 0).toNat (1 - (flips xs (ids.take k)).getD (ids.getD k 0).toNat 0) := by
  rw [take_succ' ids k hk, flips_snoc]

theorem flipBits_any (ao bo : Option Addr) (cap cap' : Nat) (xs ids : List Int) (w : World) (hr : Rd w ao xs.length xs) (hr' : Rd w bo ids.length ids) (hn : xs.length ≤ 1048576) (hn' : ids.length ≤ 1048576) :
    Calls Try.prog 26 #[.slice ao xs.length cap, .slice bo ids.length cap'] w (Makes2 2 w (flipBits xs ids).1 (flipBits xs ids).2) := by
  by_cases hb : isBits xs = true
  · have hbits := (isBits_iff.1 hb).2
    by_cases hs : rises xs.length ids = true
    · rw [fb_0 hb hs]
      have HB := Lib.hid hb; clear hb
      have HS := Lib.hid hs; clear hs
      have hfz := fun k => flips_bits xs (ids.take k) hbits
      have HZ := Lib.hid hfz; clear hfz hbits
      go_enter Try.func26, Try.ntmps26
      go_wp2_with (first
        | (go_at_call 63; refine (isBits_any _ _ _ _ _ hr (by omega)).mono ?_; rintro e w' ⟨rfl, rfl⟩; rw [HB.out])
        | (go_at_call 64; refine (areIndices_any _ _ _ _ _ _ hr' (by omega)).mono ?_; rintro e w' ⟨rfl, rfl⟩; rw [HS.out])
        | (at_make; refine make_cap _ rfl _ _ rfl w.heap.size Try.underlying26 info64 _ _ _ _ xs.length xs.length rfl rfl rfl rfl (Nat.le_refl _) (by omega) (Nat.le_refl _) ?_; intro w1 o1 b1)
        | (with_reducible refine copy_whole _ rfl (.tmp 20) (.tmp 21) rfl w.heap.size Try.underlying26 info64 _ _ _ _ rfl o1 (by simp) _ _ xs rfl (hr.below b1) ?_; intro w2 o2 b2))
      have hb2 : Below w.heap.size w w2 := b1.trans b2
      clear b1 b2 o1
      go_loopw [25] (fun i wr => ∃ k : Nat, k ≤ ids.length ∧ i = .int .i64 k ∧ Own 2 wr w.heap.size (.slice (some ⟨w.heap.size, 0, none⟩) xs.length xs.length) (flips xs (ids.take k)) ∧ Below w.heap.size w wr) (fun i _ => ids.length - (intOf i).toNat)
      case atStart => exact ⟨0, Nat.zero_le _, rfl, o2, hb2⟩
      case round =>
        clear o2 hb2
        obtain ⟨k, hk, rfl, hown, hbel⟩ := hrel
        by_cases hlt : k < ids.length
        · obtain ⟨b, off, rfl, hc⟩ := (hr'.below hbel).here (by omega)
          have hck := hc k hlt
          clear hc
          have hfs := flips_succ xs ids k hlt
          obtain ⟨hi0, hi1⟩ := rises_at HS.out hlt
          obtain ⟨x, hx⟩ : ∃ x, x = ids.getD k 0 := ⟨_, rfl⟩
          rw [← hx] at hck hi0 hi1 hfs
          obtain ⟨t, rfl⟩ := Int.eq_ofNat_of_zero_le hi0
          rw [Int.toNat_natCast] at hfs
          have hfl := flips_len xs (ids.take k)
          have hbit := HZ.out k _ (getD_mem (xs := flips xs (ids.take k)) (k := t) (by rw [hfl]; omega))
          obtain ⟨y, hy⟩ : ∃ y, y = (flips xs (ids.take k)).getD t 0 := ⟨_, rfl⟩
          have hxb := xor_bit ((flips xs (ids.take k)).getD t 0) hbit.1 hbit.2
          rw [← hxb] at hfs
          obtain ⟨hdst, hfz, hown', hbel'⟩ := own_store hown hfl (k := t) (by omega) (bits .xor .i64 ((flips xs (ids.take k)).getD t 0) 1)
          rw [← hfs] at hown'
          rw [← hy] at hdst hown' hbel'
          have HO := Lib.hid hown'; clear hown' hown
          have HBE := Lib.hid (hbel.trans hbel'); clear hbel hbel'
          clear hx hfs hbit hxb hy hfl
          go_wp2
          go_roundw
          case rel => exact ⟨k + 1, by omega, by go_num, HO.out, HBE.out⟩
          case measure => simp [intOf]; omega
        · have hkn : k = ids.length := by omega
          subst hkn
          have h := hown
          rw [List.take_length] at h
          have HO := Lib.hid h; clear hown h
          go_wp2
          go_ret2
          exact ⟨_, rfl, HO.out, hbel⟩
    · have hs' : rises xs.length ids = false := by simpa using hs
      rw [fb_2 hb hs']
      have HB := Lib.hid hb; clear hb hbits
      have HS := Lib.hid hs'; clear hs hs'
      go_enter Try.func26, Try.ntmps26
      go_wp2_with (first
        | (go_at_call 63; refine (isBits_any _ _ _ _ _ hr (by omega)).mono ?_; rintro e w' ⟨rfl, rfl⟩; rw [HB.out])
        | (go_at_call 64; refine (areIndices_any _ _ _ _ _ _ hr' (by omega)).mono ?_; rintro e w' ⟨rfl, rfl⟩; rw [HS.out]))
      go_ret2
      exact ⟨_, rfl, Own.nil_, Below.refl _ _⟩
  · have hb' : isBits xs = false := by simpa using hb
    rw [fb_1 hb']
    have HB := Lib.hid hb'; clear hb hb'
    go_enter Try.func26, Try.ntmps26
    go_wp2_with (go_at_call 63; refine (isBits_any _ _ _ _ _ hr (by omega)).mono ?_; rintro e w' ⟨rfl, rfl⟩; rw [HB.out])
    go_ret2
    exact ⟨_, rfl, Own.nil_, Below.refl _ _⟩

/-- spec.l01Flip. -/
theorem l01Flip_any (ao bo : Option Addr) (cap cap' : Nat) (xs ids : List Int) (w : World) (hr : Rd w ao xs.length xs) (hr' : Rd w bo ids.length ids) (hn : xs.length ≤ 1048576) (hn' : ids.length ≤ 1048576) (hbits : ∀ x ∈ xs, 0 ≤ x ∧ x ≤ 1) (hs : rises xs.length ids = true) :
    Calls Try.prog 73 #[.slice ao xs.length cap, .slice bo ids.length cap'] w (Makes 2 w (flips xs ids)) := by
  have HS := Lib.hid hs; clear hs
  have hfz := fun k => flips_bits xs (ids.take k) hbits
  have HZ := Lib.hid hfz; clear hfz hbits
  go_enter Try.func73, Try.ntmps73
  go_wp2_with (at_builtin; refine append_list _ rfl (.tmp 7) (.tmp 8) rfl w.heap.size Try.underlying26 info64 _ [] rfl (Own.of_alloc_nil (Nat.le_refl _)) _ _ _ xs rfl (hr.below ((Below.refl _ _).alloc (Nat.le_refl _) _)) (by simp; omega) (by simp) ?_; intro v1 w1 o1 b1)
  have b1' : Below w.heap.size w w1 := ((Below.refl _ _).alloc (Nat.le_refl _) _).trans b1
  rw [List.nil_append] at o1
  obtain ⟨ao1, c1, rfl, o1, -⟩ := o1.get
  clear b1
  go_loopw [6] (fun i wr => ∃ k : Nat, k ≤ ids.length ∧ i = .int .i64 k ∧ Own 2 wr w.heap.size (.slice ao1 xs.length c1) (flips xs (ids.take k)) ∧ Below w.heap.size w wr) (fun i _ => ids.length - (intOf i).toNat)
  case atStart => exact ⟨0, Nat.zero_le _, rfl, o1, b1'⟩
  case round =>
    clear o1 b1'
    obtain ⟨k, hk, rfl, hown, hbel⟩ := hrel
    by_cases hlt : k < ids.length
    · obtain ⟨b, off, rfl, hc⟩ := (hr'.below hbel).here (by omega)
      have hck := hc k hlt
      clear hc
      have hblt : b < w.heap.size := by
        obtain ⟨_, _, e, h⟩ := hr'.block (by omega)
        cases e; exact h
      have hfs := flips_succ xs ids k hlt
      obtain ⟨hi0, hi1⟩ := rises_at HS.out hlt
      obtain ⟨x, hx⟩ : ∃ x, x = ids.getD k 0 := ⟨_, rfl⟩
      rw [← hx] at hck hi0 hi1 hfs
      obtain ⟨t, rfl⟩ := Int.eq_ofNat_of_zero_le hi0
      rw [Int.toNat_natCast] at hfs
      have hfl := flips_len xs (ids.take k)
      have hbit := HZ.out k _ (getD_mem (xs := flips xs (ids.take k)) (k := t) (by rw [hfl]; omega))
      obtain ⟨y, hy⟩ : ∃ y, y = (flips xs (ids.take k)).getD t 0 := ⟨_, rfl⟩
      have hf := hown.form
      obtain ⟨ao', cap'', e, -, -, -, hcase⟩ := hf
      rw [hfl] at e
      cases e
      rcases hcase with hnil | ⟨g, rfl, hgb, hgl⟩
      · simp only [Value.slice.injEq] at hnil; omega
      · obtain ⟨hdst, hfz, hown', hbel'⟩ := own_store hown hfl (k := t) (by omega) (1 - (flips xs (ids.take k)).getD t 0)
        rw [← hfs] at hown'
        rw [← hy] at hdst hown' hbel' hbit
        have HO := Lib.hid hown'; clear hown' hown
        have HBE := Lib.hid (hbel.trans hbel'); clear hbel hbel'
        obtain ⟨hy0, hy1⟩ := hbit
        clear hx hfs hy hfl
        go_wp2
        go_region
        go_wp2
        go_roundw
        case rel => exact ⟨k + 1, by omega, by go_num, World.ownsRow.drew HO.out, HBE.out.drew⟩
        case measure => simp [intOf]; omega
    · have hkn : k = ids.length := by omega
      subst hkn
      have h := hown
      rw [List.take_length] at h
      have HO := Lib.hid h; clear hown h
      go_wp2
      go_ret
      exact ⟨_, rfl, HO.out, hbel⟩

theorem sFlipBits_any (ao bo : Option Addr) (cap cap' : Nat) (xs ids : List Int) (w : World) (hr : Rd w ao xs.length xs) (hr' : Rd w bo ids.length ids) (hn : xs.length ≤ 1048576) (hn' : ids.length ≤ 1048576) :
    Calls Try.prog 85 #[.slice ao xs.length cap, .slice bo ids.length cap'] w (Makes2 2 w (flipBits xs ids).1 (flipBits xs ids).2) := by
  by_cases hb : isBits xs = true
  · have hbits := (isBits_iff.1 hb).2
    have HZ := Lib.hid hbits; clear hbits
    by_cases hs : rises xs.length ids = true
    · rw [fb_0 hb hs]
      have HB := Lib.hid hb; clear hb
      have HS := Lib.hid hs; clear hs
      go_enter Try.func85, Try.ntmps85
      go_wp2_with (first
        | (go_at_call 50; refine (sIsBits_any _ _ _ _ _ hr (by omega)).mono ?_; rintro e w' ⟨rfl, rfl⟩; rw [HB.out])
        | (go_at_call 89; refine (l01Rises_any _ _ _ _ _ _ hr' (by omega) (by omega) (by omega)).mono ?_; rintro e w1 ⟨rfl, b1⟩; rw [HS.out])
        | (go_at_call 73; refine (l01Flip_any _ _ _ _ xs ids _ (hr.below b1) (hr'.below b1) hn hn' HZ.out HS.out).mono ?_; rintro e w3 m3; obtain ⟨v3, rfl, o3, b3⟩ := m3))
      go_ret2
      exact ⟨_, rfl, o3.more b1.size, below_two b1 b3⟩
    · have hs' : rises xs.length ids = false := by simpa using hs
      rw [fb_2 hb hs']
      have HB := Lib.hid hb; clear hb
      have HS := Lib.hid hs'; clear hs hs'
      go_enter Try.func85, Try.ntmps85
      go_wp2_with (first
        | (go_at_call 50; refine (sIsBits_any _ _ _ _ _ hr (by omega)).mono ?_; rintro e w' ⟨rfl, rfl⟩; rw [HB.out])
        | (go_at_call 89; refine (l01Rises_any _ _ _ _ _ _ hr' (by omega) (by omega) (by omega)).mono ?_; rintro e w1 ⟨rfl, b1⟩; rw [HS.out]))
      go_ret2
      exact ⟨_, rfl, Own.nil_, b1⟩
  · have hb' : isBits xs = false := by simpa using hb
    rw [fb_1 hb']
    have HB := Lib.hid hb'; clear hb hb'
    go_enter Try.func85, Try.ntmps85
    go_wp2_with (go_at_call 50; refine (sIsBits_any _ _ _ _ _ hr (by omega)).mono ?_; rintro e w' ⟨rfl, rfl⟩; rw [HB.out])
    go_ret2
    exact ⟨_, rfl, Own.nil_, Below.refl _ _⟩

end

section
open Go.RowKit

end

section
open Go.RowKit

theorem infoU8 : (Try.prog.info? 5).map (fun i => (i.zero, i.size, i.bytes)) = some (some (.int .u8 0), 1, 1) := by kernel_rfl

def bitsText (xs : List Int) : ByteArray := if isBits xs = false then ByteArray.empty else strOfNums (xs.map fun x => 48 + x)
def isDigit01 (c : Int) : Bool := c == 48 || c == 49
def readBits (cs : List Int) : List Int × Bool := if 8192 < cs.length then ([], false) else if cs.all isDigit01 = true then (cs.map fun c => c - 48, true) else ([], false)
theorem bt_no {xs : List Int} (h : isBits xs = false) : bitsText xs = ByteArray.empty := by simp [bitsText, h]
theorem bt_yes {xs : List Int} (h : isBits xs = true) : bitsText xs = strOfNums (xs.map fun x => 48 + x) := by simp [bitsText, h]
theorem rb_long {cs : List Int} (h : 8192 < cs.length) : readBits cs = ([], false) := by simp [readBits, h]
theorem rb_no {cs : List Int} {k : Nat} (hk : k < cs.length) (h : isDigit01 (cs.getD k 0) = false) : readBits cs = ([], false) := by
  unfold readBits
  split
  · rfl
  · rw [if_neg]
    rw [List.getD, List.getElem?_eq_getElem hk] at h
    intro hh
    have := List.all_eq_true.1 hh cs[k] (List.getElem_mem hk)
    simp at h
    rw [h] at this
    cases this
theorem rb_yes {cs : List Int} (h : ¬ 8192 < cs.length) (h2 : cs.all isDigit01 = true) : readBits cs = (cs.map fun c => c - 48, true) := by simp [readBits, h, h2]
theorem readBits_len (cs : List Int) : (readBits cs).1.length ≤ 8192 := by
  unfold readBits
  split
  · simp
  · split
    · rw [List.length_map]; omega
    · simp
theorem all_succ {p : Int → Bool} {cs : List Int} {k : Nat} (hk : k < cs.length) (h : (cs.take k).all p = true) (hp : p (cs.getD k 0) = true) : (cs.take (k + 1)).all p = true := by
  rw [take_succ' cs k hk, List.all_append, h]; simp only [List.all_cons, List.all_nil, hp, Bool.and_self]

theorem isDigit01_no {c : Int} (h0 : ¬ c = 48) (h1 : ¬ c = 49) : isDigit01 c = false := by simp [isDigit01, h0, h1]

end
end Go.Proofs.Ytfmbefmiglpijaa
