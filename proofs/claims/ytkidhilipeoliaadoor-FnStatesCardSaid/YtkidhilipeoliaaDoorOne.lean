/-
  The small functions of the laws and of chapter 1: what each call does.
  The functions of chapter 1 that append: impl.pushNumber, spec.l01Append, and what stands on them.
  spec.l01Append and spec.AppendNumber; impl.numberOf, spec.l01Number, NumberAt on both sides.
  BytesToBits and BitsToBytes, on both sides.
-/
import Derived.Test.YtkidhilipeoliaaDoorRows
import Derived.Test.YtkidhilipeoliaaDoorBase
import Derived.BigQuiet
import Derived.Laws.CopyOwn
namespace Go.Proofs.YtkidhilipeoliaaDoor
section
open Go.RowKit

theorem info64 : (Tryd.prog.info? 2).map (fun i => (i.zero, i.size, i.bytes)) = some (some (.int .i64 0), 1, 8) := by kernel_rfl

/-- impl.isListWithin. -/
theorem isListWithin_any (ao : Option Addr) (n cap : Nat) (xs : List Int) (most hi : Int) (w : World) (hr : Rd w ao n xs) (hn : n ≤ 9223372036854775807) :
    Calls Tryd.prog 40 #[.slice ao n cap, .int .i64 most, .int .i64 hi] w fun e w' => e = .returned (.bool (within most hi xs)) ∧ w = w' := by
  obtain ⟨hlen, hat⟩ := hr
  by_cases hm : (n : Int) ≤ most
  · have HL := Lib.hid hlen; clear hlen
    have HA := Lib.hid hat; clear hat
    go_enter Tryd.func40, Tryd.ntmps40
    go_wp2
    go_loop [15] (fun i => ∃ k : Nat, k ≤ n ∧ i = .int .i64 k ∧ Hid (allIn hi (xs.take k) = true)) (fun i => n - (intOf i).toNat)
    case atStart => exact ⟨0, Nat.zero_le _, rfl, rfl⟩
    case round =>
      obtain ⟨k, hk, rfl, hall⟩ := hrel
      by_cases hlt : k < n
      · obtain ⟨b, off, rfl, hc⟩ := HA.out (by omega)
        have hck := hc k hlt
        clear hc HA
        have hkx : k < xs.length := by rw [HL.out]; exact hlt
        obtain ⟨x, hx⟩ : ∃ x, x = xs.getD k 0 := ⟨_, rfl⟩
        rw [← hx] at hck
        have HX := Lib.hid hx; clear hx
        have HK := Lib.hid hkx; clear hkx
        by_cases h0 : x < 0
        · go_wp2
          go_ret
          exact ⟨ret_bool (within_no (allIn_no HK.out (by rw [← HX.out]; exact inR_low h0))).symm, rfl⟩
        · by_cases h1 : hi < x
          · go_wp2
            go_ret
            exact ⟨ret_bool (within_no (allIn_no HK.out (by rw [← HX.out]; exact inR_high h1))).symm, rfl⟩
          · go_wp2
            go_round
            case rel => exact ⟨k + 1, by omega, by go_num, allIn_succ HK.out hall.out (by rw [← HX.out]; exact inR_true (by omega) (by omega))⟩
            case measure => simp [intOf]; omega
      · have hkn : k = n := by omega
        subst hkn
        go_wp2
        go_ret
        exact ⟨ret_bool (within_yes (by rw [HL.out]; exact hm) (by have := hall.out; rwa [List.take_of_length_le (by rw [HL.out]; exact Nat.le_refl _)] at this)).symm, rfl⟩
  · have hf : within most hi xs = false := within_long (by omega)
    rw [hf]
    clear hlen hat hf
    go_enter Tryd.func40, Tryd.ntmps40
    go_wp2
    go_ret
    exact ⟨rfl, rfl⟩

/-- spec.l01In. -/
theorem l01In_yes (x lo hi : Int) (w : World) (h0 : lo ≤ x) (h1 : x ≤ hi) : Calls Tryd.prog 37 #[.int .i64 x, .int .i64 lo, .int .i64 hi] w fun e w' => e = .returned (.bool true) ∧ w = w' := by
  go_enter Tryd.func37, Tryd.ntmps37
  go_wp2
  go_ret
  exact ⟨rfl, rfl⟩
theorem l01In_no (x lo hi : Int) (w : World) (h : x < lo ∨ hi < x) : Calls Tryd.prog 37 #[.int .i64 x, .int .i64 lo, .int .i64 hi] w fun e w' => e = .returned (.bool false) ∧ w = w' := by
  by_cases h0 : x < lo
  · go_enter Tryd.func37, Tryd.ntmps37
    go_wp2
    go_ret
    exact ⟨rfl, rfl⟩
  · have h1 : hi < x := by omega
    clear h
    go_enter Tryd.func37, Tryd.ntmps37
    go_wp2
    go_ret
    exact ⟨ret_bool (decide_eq_false (by omega)), rfl⟩

/-- spec.l01All. -/
theorem l01All_any (ao : Option Addr) (n cap : Nat) (xs : List Int) (most hi : Int) (w : World) (hr : Rd w ao n xs) (hn : n ≤ 9223372036854775807) :
    Calls Tryd.prog 41 #[.slice ao n cap, .int .i64 most, .int .i64 hi] w fun e w' => e = .returned (.bool (within most hi xs)) ∧ w = w' := by
  obtain ⟨hlen, hat⟩ := hr
  by_cases hm : (n : Int) ≤ most
  · have HL := Lib.hid hlen; clear hlen
    have HA := Lib.hid hat; clear hat
    go_enter Tryd.func41, Tryd.ntmps41
    go_wp2
    go_loop [7] (fun i => ∃ k : Nat, k ≤ n ∧ i = .int .i64 k ∧ Hid (allIn hi (xs.take k) = true)) (fun i => n - (intOf i).toNat)
    case atStart => exact ⟨0, Nat.zero_le _, rfl, rfl⟩
    case round =>
      obtain ⟨k, hk, rfl, hall⟩ := hrel
      by_cases hlt : k < n
      · obtain ⟨b, off, rfl, hc⟩ := HA.out (by omega)
        have hck := hc k hlt
        clear hc HA
        have hkx : k < xs.length := by rw [HL.out]; exact hlt
        obtain ⟨x, hx⟩ : ∃ x, x = xs.getD k 0 := ⟨_, rfl⟩
        rw [← hx] at hck
        have HX := Lib.hid hx; clear hx
        have HK := Lib.hid hkx; clear hkx
        by_cases h0 : x < 0 ∨ hi < x
        · have H0 := Lib.hid h0; clear h0
          go_wp2_with (go_at_call 37; refine (l01In_no _ _ _ _ H0.out).mono ?_; rintro e w' ⟨rfl, rfl⟩)
          go_ret
          exact ⟨ret_bool (within_no (allIn_no HK.out (by rw [← HX.out]; exact H0.out.elim inR_low inR_high))).symm, rfl⟩
        · have h1 : 0 ≤ x := by omega
          have h2 : x ≤ hi := by omega
          clear h0
          go_wp2_with (go_at_call 37; refine (l01In_yes _ _ _ _ h1 h2).mono ?_; rintro e w' ⟨rfl, rfl⟩)
          go_round
          case rel => exact ⟨k + 1, by omega, by go_num, allIn_succ HK.out hall.out (by rw [← HX.out]; exact inR_true (by omega) (by omega))⟩
          case measure => simp [intOf]; omega
      · have hkn : k = n := by omega
        subst hkn
        go_wp2
        go_ret
        exact ⟨ret_bool (within_yes (by rw [HL.out]; exact hm) (by have := hall.out; rwa [List.take_of_length_le (by rw [HL.out]; exact Nat.le_refl _)] at this)).symm, rfl⟩
  · have hf : within most hi xs = false := within_long (by omega)
    rw [hf]
    clear hlen hat hf
    go_enter Tryd.func41, Tryd.ntmps41
    go_wp2
    go_ret
    exact ⟨rfl, rfl⟩

theorem isBits_any (ao : Option Addr) (n cap : Nat) (xs : List Int) (w : World) (hr : Rd w ao n xs) (hn : n ≤ 9223372036854775807) :
    Calls Tryd.prog 25 #[.slice ao n cap] w fun e w' => e = .returned (.bool (isBits xs)) ∧ w = w' := by
  go_enter Tryd.func25, Tryd.ntmps25
  go_wp2_with (go_at_call 40; refine (isListWithin_any _ _ _ xs _ _ _ hr hn).mono ?_; rintro e w' ⟨rfl, rfl⟩)
  go_ret
  exact ⟨rfl, rfl⟩
theorem sIsBits_any (ao : Option Addr) (n cap : Nat) (xs : List Int) (w : World) (hr : Rd w ao n xs) (hn : n ≤ 9223372036854775807) :
    Calls Tryd.prog 28 #[.slice ao n cap] w fun e w' => e = .returned (.bool (isBits xs)) ∧ w = w' := by
  go_enter Tryd.func28, Tryd.ntmps28
  go_wp2_with (go_at_call 41; refine (l01All_any _ _ _ xs _ _ _ hr hn).mono ?_; rintro e w' ⟨rfl, rfl⟩)
  go_ret
  exact ⟨rfl, rfl⟩
end

section
open Go.RowKit

/-- impl.pushNumber. -/
theorem push_any (base : Nat) (v0 : Value) (xs : List Int) (val : Int) (width : Nat) (w : World) (ho : Own 2 w base v0 xs) (hl : xs.length ≤ 1048576) (hb : base ≤ w.heap.size) (hw : width ≤ 40) :
    Calls Tryd.prog 49 #[v0, .int .i64 val, .int .i64 width] w fun e w' => ∃ v, e = .returned v ∧ Own 2 w' base v (xs ++ bitsOf val width) ∧ Below base w w' := by
  have ho' : Own 2 w base v0 (xs ++ topBits val width (width - width)) := by rw [Nat.sub_self]; simpa [topBits] using ho
  have HO := Lib.hid ho'; clear ho ho'
  go_enter Tryd.func49, Tryd.ntmps49
  go_wp2
  go_loopw [0, 7] (fun v i wr => ∃ s : Nat, s ≤ width ∧ i = .int .i64 ((s : Int) - 1) ∧ Own 2 wr base v (xs ++ topBits val width (width - s)) ∧ Below base w wr) (fun _ i _ => (intOf i + 1).toNat)
  case atStart => exact ⟨width, Nat.le_refl _, rfl, HO.out, Below.refl _ _⟩
  case round =>
    obtain ⟨s, hs, rfl, hown, hbel⟩ := hrel
    rcases s with _ | s
    · have e : ((0 : Nat) : Int) - 1 = -1 := by omega
      rw [e]; clear e
      have HW := Lib.hid hown; clear hown
      go_wp2
      go_ret
      exact ⟨_, rfl, by have h := HW.out; rwa [Nat.sub_zero] at h, hbel⟩
    · have e : ((s + 1 : Nat) : Int) - 1 = (s : Int) := by omega
      rw [e]; clear e
      have hlen := topBits_len val width (width - (s + 1))
      have hl2 : (xs ++ topBits val width (width - (s + 1))).length ≤ 4294967296 := by rw [List.length_append, hlen]; omega
      clear hlen
      have hsz := hbel.size
      have HW := Lib.hid hown; clear hown
      have HB := Lib.hid hbel; clear hbel
      go_wp2_with (at_builtin; refine append_one _ rfl (.tmp 14) (.tmp 19) rfl base Tryd.underlying27 info64 _ _ rfl (HW.out.below ((Below.refl _ _).alloc (Nat.le_refl _) _)) _ _ _ rfl (new_cell rfl) hl2 (by simp; omega) ?_; intro v' w' hown hbel)
      have HO' := Lib.hid hown; clear hown
      have HB' := Lib.hid hbel; clear hbel
      go_wp2
      go_roundw
      case rel => exact ⟨s, by omega, by go_num, by have h := HO'.out; rw [and_one, List.append_assoc, show val / 2 ^ s % 2 = bitAt val width (width - (s + 1)) from by unfold bitAt; rw [show width - 1 - (width - (s + 1)) = s from by omega], ← topBits_succ, show width - (s + 1) + 1 = width - s from by omega] at h; exact h, (HB.out.alloc (by omega) _).trans HB'.out⟩
      case measure => simp [intOf]
theorem an_1 {xs : List Int} {v width : Int} (h : isBits xs = false) : appendNumber xs v width = ([], 1) := by simp [appendNumber, h]
theorem an_2a {xs : List Int} {v width : Int} (h : isBits xs = true) (h2 : ¬ (0 ≤ width ∧ width ≤ 40)) : appendNumber xs v width = ([], 2) := by
  unfold appendNumber; rw [if_neg (by simp [h]), if_pos (.inl h2)]
theorem an_2b {xs : List Int} {v width : Int} (h : isBits xs = true) (h2 : ¬ (0 ≤ v ∧ v < 2 ^ width.toNat)) : appendNumber xs v width = ([], 2) := by
  unfold appendNumber; rw [if_neg (by simp [h]), if_pos (.inr h2)]
theorem an_3 {xs : List Int} {v width : Int} (h : isBits xs = true) (h1 : 0 ≤ width ∧ width ≤ 40) (h2 : 0 ≤ v ∧ v < 2 ^ width.toNat) (h3 : 8192 < (xs.length : Int) + width) : appendNumber xs v width = ([], 3) := by
  unfold appendNumber; rw [if_neg (by simp [h]), if_neg (by rintro (h | h) <;> exact h ‹_›), if_pos h3]
theorem an_0 {xs : List Int} {v width : Int} (h : isBits xs = true) (h1 : 0 ≤ width ∧ width ≤ 40) (h2 : 0 ≤ v ∧ v < 2 ^ width.toNat) (h3 : ¬ 8192 < (xs.length : Int) + width) : appendNumber xs v width = (xs ++ bitsOf v width.toNat, 0) := by
  unfold appendNumber; rw [if_neg (by simp [h]), if_neg (by rintro (h | h) <;> exact h ‹_›), if_neg h3]

end

section
open Go.RowKit

/-- spec.l01Append. -/
theorem l01Append_any (ao : Option Addr) (n cap : Nat) (xs : List Int) (val : Int) (width : Nat) (w : World) (hr : Rd w ao n xs) (hl : n ≤ 1048576) (hw : width ≤ 40) :
    Calls Tryd.prog 39 #[.slice ao n cap, .int .i64 val, .int .i64 width] w (Makes 2 w (xs ++ bitsOf val width)) := by
  have hxl := hr.len
  have hl' : xs.length ≤ 1048576 := by omega
  clear hxl
  go_enter Tryd.func39, Tryd.ntmps39
  go_wp2_with (at_builtin; refine append_list _ rfl (.tmp 9) (.tmp 10) rfl w.heap.size Tryd.underlying27 info64 _ [] rfl (Own.of_alloc_nil (Nat.le_refl _)) _ _ _ xs rfl (hr.below ((Below.refl _ _).alloc (Nat.le_refl _) _)) (by simp; omega) (by simp) ?_; intro v1 w1 o1 b1)
  have b1' : Below w.heap.size w w1 := ((Below.refl _ _).alloc (Nat.le_refl _) _).trans b1
  have o1' : Own 2 w1 w.heap.size v1 (xs ++ topBits val width (width - width)) := by rw [Nat.sub_self]; simpa [topBits] using o1
  have HO := Lib.hid o1'; clear o1 o1' b1
  go_wp2
  go_loopw [7, 8] (fun v i wr => ∃ s : Nat, s ≤ width ∧ i = .int .i64 ((s : Int) - 1) ∧ Own 2 wr w.heap.size v (xs ++ topBits val width (width - s)) ∧ Below w.heap.size w wr) (fun _ i _ => (intOf i + 1).toNat)
  case atStart => exact ⟨width, Nat.le_refl _, rfl, HO.out, b1'⟩
  case round =>
    clear HO b1'
    obtain ⟨s, hs, rfl, hown, hbel⟩ := hrel
    rcases s with _ | s
    · have e : ((0 : Nat) : Int) - 1 = -1 := by omega
      rw [e]; clear e
      have HW := Lib.hid hown; clear hown
      go_wp2
      go_ret
      exact ⟨_, rfl, by have h := HW.out; rwa [Nat.sub_zero] at h, hbel⟩
    · have e : ((s + 1 : Nat) : Int) - 1 = (s : Int) := by omega
      rw [e]; clear e
      have hlen := topBits_len val width (width - (s + 1))
      have hl2 : (xs ++ topBits val width (width - (s + 1))).length ≤ 4294967296 := by rw [List.length_append, hlen]; omega
      clear hlen
      have hsz := hbel.size
      have HW := Lib.hid hown; clear hown
      have HB := Lib.hid hbel; clear hbel
      go_wp2_with (at_builtin; refine append_one _ rfl (.tmp 18) (.tmp 24) rfl w.heap.size Tryd.underlying27 info64 _ _ rfl (HW.out.below ((Below.refl _ _).alloc (Nat.le_refl _) _)) _ _ _ rfl (new_cell rfl) hl2 (by simp; omega) ?_; intro v' w' hown hbel)
      have HO' := Lib.hid hown; clear hown
      have HB' := Lib.hid hbel; clear hbel
      go_wp2
      go_roundw
      case rel => exact ⟨s, by omega, by go_num, by have h := HO'.out; rw [and_one, List.append_assoc, show val / 2 ^ s % 2 = bitAt val width (width - (s + 1)) from by unfold bitAt; rw [show width - 1 - (width - (s + 1)) = s from by omega], ← topBits_succ, show width - (s + 1) + 1 = width - s from by omega] at h; exact h, (HB.out.alloc (by omega) _).trans HB'.out⟩
      case measure => simp [intOf]

/-- impl.numberOf of at most forty bits. -/
theorem numberOf_any (ao : Option Addr) (n cap : Nat) (xs : List Int) (w : World) (hr : Rd w ao n xs) (hn : n ≤ 40) (hbits : ∀ x ∈ xs, 0 ≤ x ∧ x ≤ 1) :
    Calls Tryd.prog 27 #[.slice ao n cap] w fun e w' => e = .returned (.int .i64 (numOf xs)) ∧ w = w' := by
  obtain ⟨hlen, hat⟩ := hr
  have HL := Lib.hid hlen; clear hlen
  have HA := Lib.hid hat; clear hat
  have HZ := Lib.hid hbits; clear hbits
  go_enter Tryd.func27, Tryd.ntmps27
  go_wp2
  go_loop [3, 8] (fun v i => ∃ k : Nat, k ≤ n ∧ i = .int .i64 k ∧ v = .int .i64 (numOf (xs.take k))) (fun _ i => n - (intOf i).toNat)
  case atStart => exact ⟨0, Nat.zero_le _, rfl, rfl⟩
  case round =>
    obtain ⟨k, hk, rfl, rfl⟩ := hrel
    by_cases hlt : k < n
    · obtain ⟨b, off, rfl, hc⟩ := HA.out (by omega)
      have hck := hc k hlt
      clear hc HA
      have hkx : k < xs.length := by rw [HL.out]; exact hlt
      have hb0 := HZ.out (xs.getD k 0) (by rw [List.getD, List.getElem?_eq_getElem hkx]; exact List.getElem_mem hkx)
      have hs := take_succ' xs k hkx
      have hbd := numOf_bound (xs.take k) (fun x hx => HZ.out x (List.mem_of_mem_take hx))
      rw [List.length_take, Nat.min_eq_left (by omega)] at hbd
      have hp := pow40 k (by omega)
      have hfin : numOf (xs.take (k + 1)) = bits .or .i64 (numOf (xs.take k) * 2) (xs.getD k 0) := by
        rw [hs, numOf_snoc, or_bit _ _ hbd.1 (by omega) hb0.1 hb0.2]
      obtain ⟨x, hx⟩ : ∃ x, x = xs.getD k 0 := ⟨_, rfl⟩
      obtain ⟨q, hq⟩ : ∃ q, q = numOf (xs.take k) := ⟨_, rfl⟩
      rw [← hx] at hck hb0 hfin
      rw [← hq] at hbd hfin
      rw [← hq]
      have HF := Lib.hid hfin; clear hfin hx hq hs hkx HZ
      obtain ⟨hb1, hb2⟩ := hb0
      obtain ⟨hd1, hd2⟩ := hbd
      have hd3 : q ≤ 1099511627776 := by omega
      clear hd2 hp
      go_wp2
      go_round
      case rel => exact ⟨k + 1, by omega, by go_num, by rw [HF.out]⟩
      case measure => simp [intOf]; omega
    · have hkn : k = n := by omega
      subst hkn
      have hfin : numOf (xs.take k) = numOf xs := by rw [List.take_of_length_le (by rw [HL.out]; exact Nat.le_refl _)]
      have HF := Lib.hid hfin; clear hfin
      go_wp2
      go_ret
      exact ⟨ret_int HF.out, rfl⟩

/-- spec.l01Number. -/
theorem l01Number_any (ao : Option Addr) (n cap : Nat) (xs : List Int) (a wd : Nat) (w : World) (hr : Rd w ao n xs) (hn : n ≤ 4294967296) (haw : a + wd ≤ n) (hwd : wd ≤ 40) (hbits : ∀ x ∈ xs, 0 ≤ x ∧ x ≤ 1) :
    Calls Tryd.prog 42 #[.slice ao n cap, .int .i64 a, .int .i64 wd] w fun e w' => e = .returned (.int .i64 (numOf ((xs.drop a).take wd))) ∧ w = w' := by
  obtain ⟨hlen, hat⟩ := hr
  have HL := Lib.hid hlen; clear hlen
  have HA := Lib.hid hat; clear hat
  have HZ := Lib.hid hbits; clear hbits
  go_enter Tryd.func42, Tryd.ntmps42
  go_wp2
  go_loop [7, 8] (fun v i => ∃ k : Nat, k ≤ wd ∧ i = .int .i64 k ∧ v = .int .i64 (numOf ((xs.drop a).take k))) (fun _ i => wd - (intOf i).toNat)
  case atStart => exact ⟨0, Nat.zero_le _, rfl, rfl⟩
  case round =>
    obtain ⟨k, hk, rfl, rfl⟩ := hrel
    by_cases hlt : k < wd
    · obtain ⟨b, off, rfl, hc⟩ := HA.out (by omega)
      have hck := hc (a + k) (by omega)
      clear hc HA
      have hkx : a + k < xs.length := by rw [HL.out]; omega
      have hb0 := HZ.out (xs.getD (a + k) 0) (by rw [List.getD, List.getElem?_eq_getElem hkx]; exact List.getElem_mem hkx)
      have hdk : k < (xs.drop a).length := by rw [List.length_drop]; omega
      have hs := take_succ' (xs.drop a) k hdk
      have hg : (xs.drop a).getD k 0 = xs.getD (a + k) 0 := by simp [List.getD, List.getElem?_drop]
      have hbd := numOf_bound ((xs.drop a).take k) (fun x hx => HZ.out x (List.mem_of_mem_drop (List.mem_of_mem_take hx)))
      rw [List.length_take, Nat.min_eq_left (by omega)] at hbd
      have hp := pow40 k (by omega)
      have hfin : numOf ((xs.drop a).take (k + 1)) = 2 * numOf ((xs.drop a).take k) + xs.getD (a + k) 0 := by rw [hs, numOf_snoc, hg]
      obtain ⟨x, hx⟩ : ∃ x, x = xs.getD (a + k) 0 := ⟨_, rfl⟩
      obtain ⟨q, hq⟩ : ∃ q, q = numOf ((xs.drop a).take k) := ⟨_, rfl⟩
      rw [← hx] at hck hb0 hfin
      rw [← hq] at hbd hfin
      rw [← hq]
      have HF := Lib.hid hfin; clear hfin hx hq hs hkx HZ hg hdk
      obtain ⟨hb1, hb2⟩ := hb0
      obtain ⟨hd1, hd2⟩ := hbd
      have hd3 : q ≤ 1099511627776 := by omega
      clear hd2 hp
      go_wp2
      go_round
      case rel => exact ⟨k + 1, by omega, by go_num, by rw [HF.out]⟩
      case measure => simp [intOf]; omega
    · have hkn : k = wd := by omega
      subst hkn
      go_wp2
      go_ret
      exact ⟨rfl, rfl⟩

theorem na_1 {xs : List Int} {v width : Int} (h : isBits xs = false) : numberAt xs v width = (0, 1) := by simp [numberAt, h]
theorem na_2a {xs : List Int} {v width : Int} (h : isBits xs = true) (h2 : ¬ (0 ≤ width ∧ width ≤ 40)) : numberAt xs v width = (0, 2) := by
  unfold numberAt; rw [if_neg (by simp [h]), if_pos (.inl h2)]
theorem na_2b {xs : List Int} {v width : Int} (h : isBits xs = true) (h2 : ¬ (0 ≤ v ∧ v ≤ (xs.length : Int) - width)) : numberAt xs v width = (0, 2) := by
  unfold numberAt; rw [if_neg (by simp [h]), if_pos (.inr h2)]
theorem na_0 {xs : List Int} {v width : Int} (h : isBits xs = true) (h1 : 0 ≤ width ∧ width ≤ 40) (h2 : 0 ≤ v ∧ v ≤ (xs.length : Int) - width) : numberAt xs v width = (numOf ((xs.drop v.toNat).take width.toNat), 0) := by
  unfold numberAt; rw [if_neg (by simp [h]), if_neg (by rintro (h | h) <;> exact h ‹_›)]

end

section
open Go.RowKit

theorem flat_succ (xs : List Int) (k : Nat) (hk : k < xs.length) : (xs.take (k + 1)).flatMap (bitsOf · 8) = (xs.take k).flatMap (bitsOf · 8) ++ bitsOf (xs.getD k 0) 8 := by
  rw [take_succ' xs k hk, List.flatMap_append]; simp
theorem flat_take_len (xs : List Int) (k : Nat) (hk : k ≤ xs.length) : ((xs.take k).flatMap (bitsOf · 8)).length = 8 * k := by
  rw [flat_len, List.length_take, Nat.min_eq_left hk]
theorem bb_1 {xs : List Int} (h : isBytes xs = false) : bytesToBits xs = ([], 1) := by simp [bytesToBits, h]
theorem bb_0 {xs : List Int} (h : isBytes xs = true) : bytesToBits xs = (xs.flatMap (bitsOf · 8), 0) := by simp [bytesToBits, h]

end
end Go.Proofs.YtkidhilipeoliaaDoor
