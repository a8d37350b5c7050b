/-
  spec.l01Append and spec.AppendNumber; impl.numberOf, spec.l01Number, NumberAt on both sides.
-/
import Derived.Test.YtbbankbamjnlcaaC1
namespace Go.Proofs.Ytbbankbamjnlcaa
open Go.RowKit

/-- spec.l01Append. -/
theorem l01Append_any (ao : Option Addr) (n cap : Nat) (xs : List Int) (val : Int) (width : Nat) (w : World) (hr : Rd w ao n xs) (hl : n ≤ 1048576) (hw : width ≤ 40) :
    Calls Try.prog 58 #[.slice ao n cap, .int .i64 val, .int .i64 width] w (Makes 2 w (xs ++ bitsOf val width)) := by
  have hxl := hr.len
  have hl' : xs.length ≤ 1048576 := by omega
  clear hxl
  go_enter Try.func58, Try.ntmps58
  go_wp2_with (at_builtin; refine append_list _ rfl (.tmp 9) (.tmp 10) rfl w.heap.size Try.underlying24 info64 _ [] rfl (Own.of_alloc_nil (Nat.le_refl _)) _ _ _ xs rfl (hr.below ((Below.refl _ _).alloc (Nat.le_refl _) _)) (by simp; omega) (by simp) ?_; intro v1 w1 o1 b1)
  have b1' : Below w.heap.size w w1 := ((Below.refl _ _).alloc (Nat.le_refl _) _).trans b1
  have o1' : Own 2 w1 w.heap.size v1 (xs ++ topBits val width (width - width)) := by rw [Nat.sub_self]; simpa [topBits] using o1
  have HO := Lib.hid o1'; clear o1 o1' b1
  go_wp2
  go_loopw [7, 8] (fun v i wr => ∃ s : Nat, s ≤ width ∧ i = .int .i64 ((s : Int) - 1) ∧ Own 2 wr w.heap.size v (xs ++ topBits val width (width - s)) ∧ Below w.heap.size w wr) (fun _ i _ => (intOf i + 1).toNat)
  case atStart => exact ⟨width, Nat.le_refl _, rfl, HO.out, b1'⟩
  case round =>
    clear HO b1'
    obtain ⟨s, hs, rfl, hown, hbel⟩ := hrel
    rcases s with _ | s
    · have e : ((0 : Nat) : Int) - 1 = -1 := by omega
      rw [e]; clear e
      have HW := Lib.hid hown; clear hown
      go_wp2
      go_ret
      exact ⟨_, rfl, by have h := HW.out; rwa [Nat.sub_zero] at h, hbel⟩
    · have e : ((s + 1 : Nat) : Int) - 1 = (s : Int) := by omega
      rw [e]; clear e
      have hlen := topBits_len val width (width - (s + 1))
      have hl2 : (xs ++ topBits val width (width - (s + 1))).length ≤ 4294967296 := by rw [List.length_append, hlen]; omega
      clear hlen
      have hsz := hbel.size
      have HW := Lib.hid hown; clear hown
      have HB := Lib.hid hbel; clear hbel
      go_wp2_with (at_builtin; refine append_one _ rfl (.tmp 18) (.tmp 24) rfl w.heap.size Try.underlying24 info64 _ _ rfl (HW.out.below ((Below.refl _ _).alloc (Nat.le_refl _) _)) _ _ _ rfl (new_cell rfl) hl2 (by simp; omega) ?_; intro v' w' hown hbel)
      have HO' := Lib.hid hown; clear hown
      have HB' := Lib.hid hbel; clear hbel
      go_wp2
      go_roundw
      case rel => exact ⟨s, by omega, by go_num, by have h := HO'.out; rw [and_one, List.append_assoc, show val / 2 ^ s % 2 = bitAt val width (width - (s + 1)) from by unfold bitAt; rw [show width - 1 - (width - (s + 1)) = s from by omega], ← topBits_succ, show width - (s + 1) + 1 = width - s from by omega] at h; exact h, (HB.out.alloc (by omega) _).trans HB'.out⟩
      case measure => simp [intOf]

theorem sAppendNumber_any (ao : Option Addr) (cap : Nat) (xs : List Int) (val width : Int) (w : World) (hr : Rd w ao xs.length xs) (hn : xs.length ≤ 1048576) :
    Calls Try.prog 21 #[.slice ao xs.length cap, .int .i64 val, .int .i64 width] w (Makes2 2 w (appendNumber xs val width).1 (appendNumber xs val width).2) := by
  by_cases hb : isBits xs = true
  · by_cases hw : 0 ≤ width ∧ width ≤ 40
    · obtain ⟨wd, rfl⟩ := Int.eq_ofNat_of_zero_le hw.1
      have hp := pow40 wd (by omega)
      obtain ⟨hw0, hw1⟩ := hw
      by_cases hv : 0 ≤ val ∧ val < 2 ^ wd
      · obtain ⟨hv0, hv1⟩ := hv
        have hv2 : val ≤ 2 ^ wd - 1 := by omega
        by_cases hl : 8192 < (xs.length : Int) + wd
        · rw [an_3 hb ⟨hw0, hw1⟩ ⟨hv0, hv1⟩ hl]
          have HB := Lib.hid hb; clear hb
          go_enter Try.func21, Try.ntmps21
          go_wp2_with (first
            | (go_at_call 46; refine (sIsBits_any _ _ _ _ _ hr (by omega)).mono ?_; rintro e w' ⟨rfl, rfl⟩; rw [HB.out])
            | (go_at_call_of 57 (Value.int IntKind.i64 (wd : Int)); refine (l01In_yes _ _ _ _ hw0 hw1).mono ?_; rintro e w' ⟨rfl, rfl⟩)
            | (go_at_call_of 57 (Value.int IntKind.i64 val); refine (l01In_yes _ _ _ _ hv0 hv2).mono ?_; rintro e w' ⟨rfl, rfl⟩))
          go_ret2
          exact ⟨_, rfl, Own.nil_, Below.refl _ _⟩
        · rw [an_0 hb ⟨hw0, hw1⟩ ⟨hv0, hv1⟩ hl, Int.toNat_natCast]
          have HB := Lib.hid hb; clear hb
          go_enter Try.func21, Try.ntmps21
          go_wp2_with (first
            | (go_at_call 46; refine (sIsBits_any _ _ _ _ _ hr (by omega)).mono ?_; rintro e w' ⟨rfl, rfl⟩; rw [HB.out])
            | (go_at_call_of 57 (Value.int IntKind.i64 (wd : Int)); refine (l01In_yes _ _ _ _ hw0 hw1).mono ?_; rintro e w' ⟨rfl, rfl⟩)
            | (go_at_call_of 57 (Value.int IntKind.i64 val); refine (l01In_yes _ _ _ _ hv0 hv2).mono ?_; rintro e w' ⟨rfl, rfl⟩)
            | (go_at_call 58; refine (l01Append_any _ _ _ xs _ _ _ hr hn (by omega)).mono ?_; rintro e w3 m3; obtain ⟨v3, rfl, o3, b3⟩ := m3))
          go_ret2
          exact ⟨_, rfl, o3, b3⟩
      · rw [an_2b hb (by simpa using hv)]
        have HB := Lib.hid hb; clear hb
        have hv' : val < 0 ∨ 2 ^ wd - 1 < val := by omega
        have HV := Lib.hid hv'; clear hv' hv
        go_enter Try.func21, Try.ntmps21
        go_wp2_with (first
          | (go_at_call 46; refine (sIsBits_any _ _ _ _ _ hr (by omega)).mono ?_; rintro e w' ⟨rfl, rfl⟩; rw [HB.out])
          | (go_at_call_of 57 (Value.int IntKind.i64 (wd : Int)); refine (l01In_yes _ _ _ _ hw0 hw1).mono ?_; rintro e w' ⟨rfl, rfl⟩)
          | (go_at_call_of 57 (Value.int IntKind.i64 val); refine (l01In_no _ _ _ _ HV.out).mono ?_; rintro e w' ⟨rfl, rfl⟩))
        go_ret2
        exact ⟨_, rfl, Own.nil_, Below.refl _ _⟩
    · rw [an_2a hb hw]
      have HB := Lib.hid hb; clear hb
      have hw' : width < 0 ∨ 40 < width := by omega
      have HW := Lib.hid hw'; clear hw hw'
      go_enter Try.func21, Try.ntmps21
      go_wp2_with (first
        | (go_at_call 46; refine (sIsBits_any _ _ _ _ _ hr (by omega)).mono ?_; rintro e w' ⟨rfl, rfl⟩; rw [HB.out])
        | (go_at_call 57; refine (l01In_no _ _ _ _ HW.out).mono ?_; rintro e w' ⟨rfl, rfl⟩))
      go_ret2
      exact ⟨_, rfl, Own.nil_, Below.refl _ _⟩
  · have hb' : isBits xs = false := by simpa using hb
    rw [an_1 hb']
    have HB := Lib.hid hb'; clear hb hb'
    go_enter Try.func21, Try.ntmps21
    go_wp2_with (go_at_call 46; refine (sIsBits_any _ _ _ _ _ hr (by omega)).mono ?_; rintro e w' ⟨rfl, rfl⟩; rw [HB.out])
    go_ret2
    exact ⟨_, rfl, Own.nil_, Below.refl _ _⟩

/-- impl.numberOf of at most forty bits. -/
theorem numberOf_any (ao : Option Addr) (n cap : Nat) (xs : List Int) (w : World) (hr : Rd w ao n xs) (hn : n ≤ 40) (hbits : ∀ x ∈ xs, 0 ≤ x ∧ x ≤ 1) :
    Calls Try.prog 59 #[.slice ao n cap] w fun e w' => e = .returned (.int .i64 (numOf xs)) ∧ w = w' := by
  obtain ⟨hlen, hat⟩ := hr
  have HL := Lib.hid hlen; clear hlen
  have HA := Lib.hid hat; clear hat
  have HZ := Lib.hid hbits; clear hbits
  go_enter Try.func59, Try.ntmps59
  go_wp2
  go_loop [3, 8] (fun v i => ∃ k : Nat, k ≤ n ∧ i = .int .i64 k ∧ v = .int .i64 (numOf (xs.take k))) (fun _ i => n - (intOf i).toNat)
  case atStart => exact ⟨0, Nat.zero_le _, rfl, rfl⟩
  case round =>
    obtain ⟨k, hk, rfl, rfl⟩ := hrel
    by_cases hlt : k < n
    · obtain ⟨b, off, rfl, hc⟩ := HA.out (by omega)
      have hck := hc k hlt
      clear hc HA
      have hkx : k < xs.length := by rw [HL.out]; exact hlt
      have hb0 := HZ.out (xs.getD k 0) (by rw [List.getD, List.getElem?_eq_getElem hkx]; exact List.getElem_mem hkx)
      have hs := take_succ' xs k hkx
      have hbd := numOf_bound (xs.take k) (fun x hx => HZ.out x (List.mem_of_mem_take hx))
      rw [List.length_take, Nat.min_eq_left (by omega)] at hbd
      have hp := pow40 k (by omega)
      have hfin : numOf (xs.take (k + 1)) = bits .or .i64 (numOf (xs.take k) * 2) (xs.getD k 0) := by
        rw [hs, numOf_snoc, or_bit _ _ hbd.1 (by omega) hb0.1 hb0.2]
      obtain ⟨x, hx⟩ : ∃ x, x = xs.getD k 0 := ⟨_, rfl⟩
      obtain ⟨q, hq⟩ : ∃ q, q = numOf (xs.take k) := ⟨_, rfl⟩
      rw [← hx] at hck hb0 hfin
      rw [← hq] at hbd hfin
      rw [← hq]
      have HF := Lib.hid hfin; clear hfin hx hq hs hkx HZ
      obtain ⟨hb1, hb2⟩ := hb0
      obtain ⟨hd1, hd2⟩ := hbd
      have hd3 : q ≤ 1099511627776 := by omega
      clear hd2 hp
      go_wp2
      go_round
      case rel => exact ⟨k + 1, by omega, by go_num, by rw [HF.out]⟩
      case measure => simp [intOf]; omega
    · have hkn : k = n := by omega
      subst hkn
      have hfin : numOf (xs.take k) = numOf xs := by rw [List.take_of_length_le (by rw [HL.out]; exact Nat.le_refl _)]
      have HF := Lib.hid hfin; clear hfin
      go_wp2
      go_ret
      exact ⟨ret_int HF.out, rfl⟩

/-- spec.l01Number. -/
theorem l01Number_any (ao : Option Addr) (n cap : Nat) (xs : List Int) (a wd : Nat) (w : World) (hr : Rd w ao n xs) (hn : n ≤ 4294967296) (haw : a + wd ≤ n) (hwd : wd ≤ 40) (hbits : ∀ x ∈ xs, 0 ≤ x ∧ x ≤ 1) :
    Calls Try.prog 60 #[.slice ao n cap, .int .i64 a, .int .i64 wd] w fun e w' => e = .returned (.int .i64 (numOf ((xs.drop a).take wd))) ∧ w = w' := by
  obtain ⟨hlen, hat⟩ := hr
  have HL := Lib.hid hlen; clear hlen
  have HA := Lib.hid hat; clear hat
  have HZ := Lib.hid hbits; clear hbits
  go_enter Try.func60, Try.ntmps60
  go_wp2
  go_loop [7, 8] (fun v i => ∃ k : Nat, k ≤ wd ∧ i = .int .i64 k ∧ v = .int .i64 (numOf ((xs.drop a).take k))) (fun _ i => wd - (intOf i).toNat)
  case atStart => exact ⟨0, Nat.zero_le _, rfl, rfl⟩
  case round =>
    obtain ⟨k, hk, rfl, rfl⟩ := hrel
    by_cases hlt : k < wd
    · obtain ⟨b, off, rfl, hc⟩ := HA.out (by omega)
      have hck := hc (a + k) (by omega)
      clear hc HA
      have hkx : a + k < xs.length := by rw [HL.out]; omega
      have hb0 := HZ.out (xs.getD (a + k) 0) (by rw [List.getD, List.getElem?_eq_getElem hkx]; exact List.getElem_mem hkx)
      have hdk : k < (xs.drop a).length := by rw [List.length_drop]; omega
      have hs := take_succ' (xs.drop a) k hdk
      have hg : (xs.drop a).getD k 0 = xs.getD (a + k) 0 := by simp [List.getD, List.getElem?_drop]
      have hbd := numOf_bound ((xs.drop a).take k) (fun x hx => HZ.out x (List.mem_of_mem_drop (List.mem_of_mem_take hx)))
      rw [List.length_take, Nat.min_eq_left (by omega)] at hbd
      have hp := pow40 k (by omega)
      have hfin : numOf ((xs.drop a).take (k + 1)) = 2 * numOf ((xs.drop a).take k) + xs.getD (a + k) 0 := by rw [hs, numOf_snoc, hg]
      obtain ⟨x, hx⟩ : ∃ x, x = xs.getD (a + k) 0 := ⟨_, rfl⟩
      obtain ⟨q, hq⟩ : ∃ q, q = numOf ((xs.drop a).take k) := ⟨_, rfl⟩
      rw [← hx] at hck hb0 hfin
      rw [← hq] at hbd hfin
      rw [← hq]
      have HF := Lib.hid hfin; clear hfin hx hq hs hkx HZ hg hdk
      obtain ⟨hb1, hb2⟩ := hb0
      obtain ⟨hd1, hd2⟩ := hbd
      have hd3 : q ≤ 1099511627776 := by omega
      clear hd2 hp
      go_wp2
      go_round
      case rel => exact ⟨k + 1, by omega, by go_num, by rw [HF.out]⟩
      case measure => simp [intOf]; omega
    · have hkn : k = wd := by omega
      subst hkn
      go_wp2
      go_ret
      exact ⟨rfl, rfl⟩

theorem na_1 {xs : List Int} {v width : Int} (h : isBits xs = false) : numberAt xs v width = (0, 1) := by simp [numberAt, h]
theorem na_2a {xs : List Int} {v width : Int} (h : isBits xs = true) (h2 : ¬ (0 ≤ width ∧ width ≤ 40)) : numberAt xs v width = (0, 2) := by
  unfold numberAt; rw [if_neg (by simp [h]), if_pos (.inl h2)]
theorem na_2b {xs : List Int} {v width : Int} (h : isBits xs = true) (h2 : ¬ (0 ≤ v ∧ v ≤ (xs.length : Int) - width)) : numberAt xs v width = (0, 2) := by
  unfold numberAt; rw [if_neg (by simp [h]), if_pos (.inr h2)]
theorem na_0 {xs : List Int} {v width : Int} (h : isBits xs = true) (h1 : 0 ≤ width ∧ width ≤ 40) (h2 : 0 ≤ v ∧ v ≤ (xs.length : Int) - width) : numberAt xs v width = (numOf ((xs.drop v.toNat).take width.toNat), 0) := by
  unfold numberAt; rw [if_neg (by simp [h]), if_neg (by rintro (h | h) <;> exact h ‹_›)]

theorem sNumberAt_any (ao : Option Addr) (cap : Nat) (xs : List Int) (at_ width : Int) (w : World) (hr : Rd w ao xs.length xs) (hn : xs.length ≤ 1048576) :
    Calls Try.prog 25 #[.slice ao xs.length cap, .int .i64 at_, .int .i64 width] w fun e w' => e = .returned (.tuple #[.int .i64 (numberAt xs at_ width).1, .int .i64 (numberAt xs at_ width).2]) ∧ w = w' := by
  by_cases hb : isBits xs = true
  · have hbits := (isBits_iff.1 hb).2
    have HZ := Lib.hid hbits; clear hbits
    by_cases hw : 0 ≤ width ∧ width ≤ 40
    · obtain ⟨wd, rfl⟩ := Int.eq_ofNat_of_zero_le hw.1
      obtain ⟨hw0, hw1⟩ := hw
      by_cases hv : 0 ≤ at_ ∧ at_ ≤ (xs.length : Int) - wd
      · obtain ⟨hv0, hv1⟩ := hv
        obtain ⟨a, rfl⟩ := Int.eq_ofNat_of_zero_le hv0
        rw [na_0 hb ⟨hw0, hw1⟩ ⟨hv0, hv1⟩, Int.toNat_natCast, Int.toNat_natCast]
        have HB := Lib.hid hb; clear hb
        go_enter Try.func25, Try.ntmps25
        go_wp2_with (first
          | (go_at_call 46; refine (sIsBits_any _ _ _ _ _ hr (by omega)).mono ?_; rintro e w' ⟨rfl, rfl⟩; rw [HB.out])
          | (go_at_call_of 57 (Value.int IntKind.i64 (wd : Int)); refine (l01In_yes _ _ _ _ hw0 hw1).mono ?_; rintro e w' ⟨rfl, rfl⟩)
          | (go_at_call_of 57 (Value.int IntKind.i64 (a : Int)); refine (l01In_yes _ _ _ _ hv0 hv1).mono ?_; rintro e w' ⟨rfl, rfl⟩)
          | (go_at_call 60; refine (l01Number_any _ _ _ xs _ _ _ hr (by omega) (by omega) (by omega) HZ.out).mono ?_; rintro e w' ⟨rfl, rfl⟩))
        go_ret2
        exact ⟨rfl, rfl⟩
      · rw [na_2b hb hv]
        have HB := Lib.hid hb; clear hb
        have hv' : at_ < 0 ∨ (xs.length : Int) - wd < at_ := by omega
        have HV := Lib.hid hv'; clear hv' hv
        go_enter Try.func25, Try.ntmps25
        go_wp2_with (first
          | (go_at_call 46; refine (sIsBits_any _ _ _ _ _ hr (by omega)).mono ?_; rintro e w' ⟨rfl, rfl⟩; rw [HB.out])
          | (go_at_call_of 57 (Value.int IntKind.i64 (wd : Int)); refine (l01In_yes _ _ _ _ hw0 hw1).mono ?_; rintro e w' ⟨rfl, rfl⟩)
          | (go_at_call_of 57 (Value.int IntKind.i64 at_); refine (l01In_no _ _ _ _ HV.out).mono ?_; rintro e w' ⟨rfl, rfl⟩))
        go_ret2
        exact ⟨rfl, rfl⟩
    · rw [na_2a hb hw]
      have HB := Lib.hid hb; clear hb
      have hw' : width < 0 ∨ 40 < width := by omega
      have HW := Lib.hid hw'; clear hw hw'
      go_enter Try.func25, Try.ntmps25
      go_wp2_with (first
        | (go_at_call 46; refine (sIsBits_any _ _ _ _ _ hr (by omega)).mono ?_; rintro e w' ⟨rfl, rfl⟩; rw [HB.out])
        | (go_at_call 57; refine (l01In_no _ _ _ _ HW.out).mono ?_; rintro e w' ⟨rfl, rfl⟩))
      go_ret2
      exact ⟨rfl, rfl⟩
  · have hb' : isBits xs = false := by simpa using hb
    rw [na_1 hb']
    have HB := Lib.hid hb'; clear hb hb'
    go_enter Try.func25, Try.ntmps25
    go_wp2_with (go_at_call 46; refine (sIsBits_any _ _ _ _ _ hr (by omega)).mono ?_; rintro e w' ⟨rfl, rfl⟩; rw [HB.out])
    go_ret2
    exact ⟨rfl, rfl⟩

theorem numberAt_any (ao : Option Addr) (cap : Nat) (xs : List Int) (at_ width : Int) (w : World) (hr : Rd w ao xs.length xs) (hn : xs.length ≤ 1048576) (hcap : xs.length ≤ cap) (hcap2 : cap ≤ 9223372036854775807) :
    Calls Try.prog 23 #[.slice ao xs.length cap, .int .i64 at_, .int .i64 width] w fun e w' => e = .returned (.tuple #[.int .i64 (numberAt xs at_ width).1, .int .i64 (numberAt xs at_ width).2]) ∧ w = w' := by
  by_cases hb : isBits xs = true
  · have hbits := (isBits_iff.1 hb).2
    have HZ := Lib.hid hbits; clear hbits
    by_cases hw : 0 ≤ width ∧ width ≤ 40
    · obtain ⟨wd, rfl⟩ := Int.eq_ofNat_of_zero_le hw.1
      obtain ⟨hw0, hw1⟩ := hw
      have hwt : inR 40 (wd : Int) = true := inR_true hw0 hw1
      have HW := Lib.hid hwt; clear hwt
      by_cases hv : 0 ≤ at_ ∧ at_ ≤ (xs.length : Int) - wd
      · obtain ⟨hv0, hv1⟩ := hv
        obtain ⟨a, rfl⟩ := Int.eq_ofNat_of_zero_le hv0
        rw [na_0 hb ⟨hw0, hw1⟩ ⟨hv0, hv1⟩, Int.toNat_natCast, Int.toNat_natCast]
        have HB := Lib.hid hb; clear hb
        by_cases hca : cap = a
        · have hrs := hr.slice_end (a := a) (k := wd) (by omega) hcap hca
          subst hca
          go_enter Try.func23, Try.ntmps23
          go_wp2_with (first
            | (go_at_call 47; refine (isBits_any _ _ _ _ _ hr (by omega)).mono ?_; rintro e w' ⟨rfl, rfl⟩; rw [HB.out])
            | (go_at_call 55; refine (isWidth_any _ _).mono ?_; rintro e w' ⟨rfl, rfl⟩; rw [HW.out])
            | (go_at_call 59; refine (numberOf_any _ _ _ _ _ hrs (by omega) fun x hx => HZ.out x (List.mem_of_mem_drop (List.mem_of_mem_take hx))).mono ?_; rintro e w' ⟨rfl, rfl⟩))
          go_ret2
          exact ⟨rfl, rfl⟩
        · have hrs := hr.slice (a := a) (k := wd) (by omega)
          go_enter Try.func23, Try.ntmps23
          go_wp2_with (first
            | (go_at_call 47; refine (isBits_any _ _ _ _ _ hr (by omega)).mono ?_; rintro e w' ⟨rfl, rfl⟩; rw [HB.out])
            | (go_at_call 55; refine (isWidth_any _ _).mono ?_; rintro e w' ⟨rfl, rfl⟩; rw [HW.out])
            | (go_at_call 59; refine (numberOf_any _ _ _ _ _ hrs (by omega) fun x hx => HZ.out x (List.mem_of_mem_drop (List.mem_of_mem_take hx))).mono ?_; rintro e w' ⟨rfl, rfl⟩))
          go_ret2
          exact ⟨rfl, rfl⟩
      · rw [na_2b hb hv]
        have HB := Lib.hid hb; clear hb
        by_cases hv0 : at_ < 0
        · clear hv
          go_enter Try.func23, Try.ntmps23
          go_wp2_with (first
            | (go_at_call 47; refine (isBits_any _ _ _ _ _ hr (by omega)).mono ?_; rintro e w' ⟨rfl, rfl⟩; rw [HB.out])
            | (go_at_call 55; refine (isWidth_any _ _).mono ?_; rintro e w' ⟨rfl, rfl⟩; rw [HW.out]))
          go_ret2
          exact ⟨rfl, rfl⟩
        · have hv1 : (xs.length : Int) - wd < at_ := by omega
          clear hv
          go_enter Try.func23, Try.ntmps23
          go_wp2_with (first
            | (go_at_call 47; refine (isBits_any _ _ _ _ _ hr (by omega)).mono ?_; rintro e w' ⟨rfl, rfl⟩; rw [HB.out])
            | (go_at_call 55; refine (isWidth_any _ _).mono ?_; rintro e w' ⟨rfl, rfl⟩; rw [HW.out]))
          go_ret2
          exact ⟨rfl, rfl⟩
    · rw [na_2a hb hw]
      have HB := Lib.hid hb; clear hb
      have hwt : inR 40 width = false := by
        by_cases h : width < 0
        · exact inR_low h
        · exact inR_high (by omega)
      have HW := Lib.hid hwt; clear hwt hw
      go_enter Try.func23, Try.ntmps23
      go_wp2_with (first
        | (go_at_call 47; refine (isBits_any _ _ _ _ _ hr (by omega)).mono ?_; rintro e w' ⟨rfl, rfl⟩; rw [HB.out])
        | (go_at_call 55; refine (isWidth_any _ _).mono ?_; rintro e w' ⟨rfl, rfl⟩; rw [HW.out]))
      go_ret2
      exact ⟨rfl, rfl⟩
  · have hb' : isBits xs = false := by simpa using hb
    rw [na_1 hb']
    have HB := Lib.hid hb'; clear hb hb'
    go_enter Try.func23, Try.ntmps23
    go_wp2_with (go_at_call 47; refine (isBits_any _ _ _ _ _ hr (by omega)).mono ?_; rintro e w' ⟨rfl, rfl⟩; rw [HB.out])
    go_ret2
    exact ⟨rfl, rfl⟩
end Go.Proofs.Ytbbankbamjnlcaa
