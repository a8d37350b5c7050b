/-
  spec.l01Append and spec.AppendNumber; impl.numberOf, spec.l01Number, NumberAt on both sides.
-/
import Derived.Test.YtadmpfmpmpdbeaaC1
namespace Go.Proofs.Ytadmpfmpmpdbeaa
open Go.RowKit

/-- spec.l01Append. -/
theorem l01Append_any (ao : Option Addr) (n cap : Nat) (xs : List Int) (val : Int) (width : Nat) (w : World) (hr : Rd w ao n xs) (hl : n ≤ 1048576) (hw : width ≤ 40) :
    Calls Try.prog 71 #[.slice ao n cap, .int .i64 val, .int .i64 width] w (Makes 2 w (xs ++ bitsOf val width)) := by
  have hxl := hr.len
  have hl' : xs.length ≤ 1048576 := by omega
  clear hxl
  go_enter Try.func71, Try.ntmps71
  go_wp2_with (at_builtin; refine append_list _ rfl (.tmp 9) (.tmp 10) rfl w.heap.size Try.underlying26 info64 _ [] rfl (Own.of_alloc_nil (Nat.le_refl _)) _ _ _ xs rfl (hr.below ((Below.refl _ _).alloc (Nat.le_refl _) _)) (by simp; omega) (by simp) ?_; intro v1 w1 o1 b1)
  have b1' : Below w.heap.size w w1 := ((Below.refl _ _).alloc (Nat.le_refl _) _).trans b1
  have o1' : Own 2 w1 w.heap.size v1 (xs ++ topBits val width (width - width)) := by rw [Nat.sub_self]; simpa [topBits] using o1
  have HO := Lib.hid o1'; clear o1 o1' b1
  go_wp2
  go_loopw [7, 8] (fun v i wr => ∃ s : Nat, s ≤ width ∧ i = .int .i64 ((s : Int) - 1) ∧ Own 2 wr w.heap.size v (xs ++ topBits val width (width - s)) ∧ Below w.heap.size w wr) (fun _ i _ => (intOf i + 1).toNat)
  case atStart => exact ⟨width, Nat.le_refl _, rfl, HO.out, b1'⟩
  case round =>
    clear HO b1'
    obtain ⟨s, hs, rfl, hown, hbel⟩ := hrel
    rcases s with _ | s
    · have e : ((0 : Nat) : Int) - 1 = -1 := by omega
      rw [e]; clear e
      have HW := Lib.hid hown; clear hown
      go_wp2
      go_ret
      exact ⟨_, rfl, by have h := HW.out; rwa [Nat.sub_zero] at h, hbel⟩
    · have e : ((s + 1 : Nat) : Int) - 1 = (s : Int) := by omega
      rw [e]; clear e
      have hlen := topBits_len val width (width - (s + 1))
      have hl2 : (xs ++ topBits val width (width - (s + 1))).length ≤ 4294967296 := by rw [List.length_append, hlen]; omega
      clear hlen
      have hsz := hbel.size
      have HW := Lib.hid hown; clear hown
      have HB := Lib.hid hbel; clear hbel
      go_wp2_with (at_builtin; refine append_one _ rfl (.tmp 18) (.tmp 24) rfl w.heap.size Try.underlying26 info64 _ _ rfl (HW.out.below ((Below.refl _ _).alloc (Nat.le_refl _) _)) _ _ _ rfl (new_cell rfl) hl2 (by simp; omega) ?_; intro v' w' hown hbel)
      have HO' := Lib.hid hown; clear hown
      have HB' := Lib.hid hbel; clear hbel
      go_wp2
      go_roundw
      case rel => exact ⟨s, by omega, by go_num, by have h := HO'.out; rw [and_one, List.append_assoc, show val / 2 ^ s % 2 = bitAt val width (width - (s + 1)) from by unfold bitAt; rw [show width - 1 - (width - (s + 1)) = s from by omega], ← topBits_succ, show width - (s + 1) + 1 = width - s from by omega] at h; exact h, (HB.out.alloc (by omega) _).trans HB'.out⟩
      case measure => simp [intOf]

/-- impl.numberOf of at most forty bits. -/
theorem numberOf_any (ao : Option Addr) (n cap : Nat) (xs : List Int) (w : World) (hr : Rd w ao n xs) (hn : n ≤ 40) (hbits : ∀ x ∈ xs, 0 ≤ x ∧ x ≤ 1) :
    Calls Try.prog 73 #[.slice ao n cap] w fun e w' => e = .returned (.int .i64 (numOf xs)) ∧ w = w' := by
  obtain ⟨hlen, hat⟩ := hr
  have HL := Lib.hid hlen; clear hlen
  have HA := Lib.hid hat; clear hat
  have HZ := Lib.hid hbits; clear hbits
  go_enter Try.func73, Try.ntmps73
  go_wp2
  go_loop [3, 8] (fun v i => ∃ k : Nat, k ≤ n ∧ i = .int .i64 k ∧ v = .int .i64 (numOf (xs.take k))) (fun _ i => n - (intOf i).toNat)
  case atStart => exact ⟨0, Nat.zero_le _, rfl, rfl⟩
  case round =>
    obtain ⟨k, hk, rfl, rfl⟩ := hrel
    by_cases hlt : k < n
    · obtain ⟨b, off, rfl, hc⟩ := HA.out (by omega)
      have hck := hc k hlt
      clear hc HA
      have hkx : k < xs.length := by rw [HL.out]; exact hlt
      have hb0 := HZ.out (xs.getD k 0) (by rw [List.getD, List.getElem?_eq_getElem hkx]; exact List.getElem_mem hkx)
      have hs := take_succ' xs k hkx
      have hbd := numOf_bound (xs.take k) (fun x hx => HZ.out x (List.mem_of_mem_take hx))
      rw [List.length_take, Nat.min_eq_left (by omega)] at hbd
      have hp := pow40 k (by omega)
      have hfin : numOf (xs.take (k + 1)) = bits .or .i64 (numOf (xs.take k) * 2) (xs.getD k 0) := by
        rw [hs, numOf_snoc, or_bit _ _ hbd.1 (by omega) hb0.1 hb0.2]
      obtain ⟨x, hx⟩ : ∃ x, x = xs.getD k 0 := ⟨_, rfl⟩
      obtain ⟨q, hq⟩ : ∃ q, q = numOf (xs.take k) := ⟨_, rfl⟩
      rw [← hx] at hck hb0 hfin
      rw [← hq] at hbd hfin
      rw [← hq]
      have HF := Lib.hid hfin; clear hfin hx hq hs hkx HZ
      obtain ⟨hb1, hb2⟩ := hb0
      obtain ⟨hd1, hd2⟩ := hbd
      have hd3 : q ≤ 1099511627776 := by omega
      clear hd2 hp
      go_wp2
      go_round
      case rel => exact ⟨k + 1, by omega, by go_num, by rw [HF.out]⟩
      case measure => simp [intOf]; omega
    · have hkn : k = n := by omega
      subst hkn
      have hfin : numOf (xs.take k) = numOf xs := by rw [List.take_of_length_le (by rw [HL.out]; exact Nat.le_refl _)]
      have HF := Lib.hid hfin; clear hfin
      go_wp2
      go_ret
      exact ⟨ret_int HF.out, rfl⟩

theorem na_1 {xs : List Int} {v width : Int} (h : isBits xs = false) : numberAt xs v width = (0, 1) := by simp [numberAt, h]
theorem na_2a {xs : List Int} {v width : Int} (h : isBits xs = true) (h2 : ¬ (0 ≤ width ∧ width ≤ 40)) : numberAt xs v width = (0, 2) := by
  unfold numberAt; rw [if_neg (by simp [h]), if_pos (.inl h2)]
theorem na_2b {xs : List Int} {v width : Int} (h : isBits xs = true) (h2 : ¬ (0 ≤ v ∧ v ≤ (xs.length : Int) - width)) : numberAt xs v width = (0, 2) := by
  unfold numberAt; rw [if_neg (by simp [h]), if_pos (.inr h2)]
theorem na_0 {xs : List Int} {v width : Int} (h : isBits xs = true) (h1 : 0 ≤ width ∧ width ≤ 40) (h2 : 0 ≤ v ∧ v ≤ (xs.length : Int) - width) : numberAt xs v width = (numOf ((xs.drop v.toNat).take width.toNat), 0) := by
  unfold numberAt; rw [if_neg (by simp [h]), if_neg (by rintro (h | h) <;> exact h ‹_›)]

end Go.Proofs.Ytadmpfmpmpdbeaa
