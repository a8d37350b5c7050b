/-
  The functions of chapter 1 that append: impl.pushNumber, spec.l01Append, and what stands on them.
-/
import Derived.Test.YtadmpfmpmpdbeaaLeaf
import Derived.Test.YtadmpfmpmpdbeaaPlain
import Derived.Test.YtadmpfmpmpdbeaaBits
import Derived.Test.YtadmpfmpmpdbeaaMem
namespace Go.Proofs.Ytadmpfmpmpdbeaa
open Go.RowKit

/-- impl.pushNumber. -/
theorem push_any (base : Nat) (v0 : Value) (xs : List Int) (val : Int) (width : Nat) (w : World) (ho : Own 2 w base v0 xs) (hl : xs.length ≤ 1048576) (hb : base ≤ w.heap.size) (hw : width ≤ 40) :
    Calls Try.prog 65 #[v0, .int .i64 val, .int .i64 width] w fun e w' => ∃ v, e = .returned v ∧ Own 2 w' base v (xs ++ bitsOf val width) ∧ Below base w w' := by
  have ho' : Own 2 w base v0 (xs ++ topBits val width (width - width)) := by rw [Nat.sub_self]; simpa [topBits] using ho
  have HO := Lib.hid ho'; clear ho ho'
  go_enter Try.func65, Try.ntmps65
  go_wp2
  go_loopw [0, 7] (fun v i wr => ∃ s : Nat, s ≤ width ∧ i = .int .i64 ((s : Int) - 1) ∧ Own 2 wr base v (xs ++ topBits val width (width - s)) ∧ Below base w wr) (fun _ i _ => (intOf i + 1).toNat)
  case atStart => exact ⟨width, Nat.le_refl _, rfl, HO.out, Below.refl _ _⟩
  case round =>
    obtain ⟨s, hs, rfl, hown, hbel⟩ := hrel
    rcases s with _ | s
    · have e : ((0 : Nat) : Int) - 1 = -1 := by omega
      rw [e]; clear e
      have HW := Lib.hid hown; clear hown
      go_wp2
      go_ret
      exact ⟨_, rfl, by have h := HW.out; rwa [Nat.sub_zero] at h, hbel⟩
    · have e : ((s + 1 : Nat) : Int) - 1 = (s : Int) := by omega
      rw [e]; clear e
      have hlen := topBits_len val width (width - (s + 1))
      have hl2 : (xs ++ topBits val width (width - (s + 1))).length ≤ 4294967296 := by rw [List.length_append, hlen]; omega
      clear hlen
      have hsz := hbel.size
      have HW := Lib.hid hown; clear hown
      have HB := Lib.hid hbel; clear hbel
      go_wp2_with (at_builtin; refine append_one _ rfl (.tmp 14) (.tmp 19) rfl base Try.underlying26 info64 _ _ rfl (HW.out.below ((Below.refl _ _).alloc (Nat.le_refl _) _)) _ _ _ rfl (new_cell rfl) hl2 (by simp; omega) ?_; intro v' w' hown hbel)
      have HO' := Lib.hid hown; clear hown
      have HB' := Lib.hid hbel; clear hbel
      go_wp2
      go_roundw
      case rel => exact ⟨s, by omega, by go_num, by have h := HO'.out; rw [and_one, List.append_assoc, show val / 2 ^ s % 2 = bitAt val width (width - (s + 1)) from by unfold bitAt; rw [show width - 1 - (width - (s + 1)) = s from by omega], ← topBits_succ, show width - (s + 1) + 1 = width - s from by omega] at h; exact h, (HB.out.alloc (by omega) _).trans HB'.out⟩
      case measure => simp [intOf]
theorem pow40 (k : Nat) (h : k ≤ 40) : (1 : Int) ≤ 2 ^ k ∧ (2 : Int) ^ k ≤ 1099511627776 := by
  have h1 : (2 : Nat) ^ k ≤ 2 ^ 40 := Nat.pow_le_pow_right (by omega) h
  have h2 : 1 ≤ (2 : Nat) ^ k := Nat.one_le_two_pow
  have e : ((2 ^ k : Nat) : Int) = (2 : Int) ^ k := by simp
  omega
theorem an_1 {xs : List Int} {v width : Int} (h : isBits xs = false) : appendNumber xs v width = ([], 1) := by simp [appendNumber, h]
theorem an_2a {xs : List Int} {v width : Int} (h : isBits xs = true) (h2 : ¬ (0 ≤ width ∧ width ≤ 40)) : appendNumber xs v width = ([], 2) := by
  unfold appendNumber; rw [if_neg (by simp [h]), if_pos (.inl h2)]
theorem an_2b {xs : List Int} {v width : Int} (h : isBits xs = true) (h2 : ¬ (0 ≤ v ∧ v < 2 ^ width.toNat)) : appendNumber xs v width = ([], 2) := by
  unfold appendNumber; rw [if_neg (by simp [h]), if_pos (.inr h2)]
theorem an_3 {xs : List Int} {v width : Int} (h : isBits xs = true) (h1 : 0 ≤ width ∧ width ≤ 40) (h2 : 0 ≤ v ∧ v < 2 ^ width.toNat) (h3 : 8192 < (xs.length : Int) + width) : appendNumber xs v width = ([], 3) := by
  unfold appendNumber; rw [if_neg (by simp [h]), if_neg (by rintro (h | h) <;> exact h ‹_›), if_pos h3]
theorem an_0 {xs : List Int} {v width : Int} (h : isBits xs = true) (h1 : 0 ≤ width ∧ width ≤ 40) (h2 : 0 ≤ v ∧ v < 2 ^ width.toNat) (h3 : ¬ 8192 < (xs.length : Int) + width) : appendNumber xs v width = (xs ++ bitsOf v width.toNat, 0) := by
  unfold appendNumber; rw [if_neg (by simp [h]), if_neg (by rintro (h | h) <;> exact h ‹_›), if_neg h3]

theorem appendNumber_any (ao : Option Addr) (cap : Nat) (xs : List Int) (val width : Int) (w : World) (hr : Rd w ao xs.length xs) (hn : xs.length ≤ 1048576) :
    Calls Try.prog 70 #[.slice ao xs.length cap, .int .i64 val, .int .i64 width] w (Makes2 2 w (appendNumber xs val width).1 (appendNumber xs val width).2) := by
  by_cases hb : isBits xs = true
  · by_cases hw : 0 ≤ width ∧ width ≤ 40
    · obtain ⟨wd, rfl⟩ := Int.eq_ofNat_of_zero_le hw.1
      have hp := pow40 wd (by omega)
      by_cases hv : 0 ≤ val ∧ val < 2 ^ wd
      · by_cases hl : 8192 < (xs.length : Int) + wd
        · rw [an_3 hb hw hv hl]
          have HB := Lib.hid hb; clear hb
          obtain ⟨hv0, hv1⟩ := hv
          have hwt : inR 40 (wd : Int) = true := inR_true hw.1 hw.2
          have HW := Lib.hid hwt; clear hwt
          go_enter Try.func70, Try.ntmps70
          go_wp2_with (first | (go_at_call 66; refine (isBits_any _ _ _ _ _ hr (by omega)).mono ?_; rintro e w' ⟨rfl, rfl⟩; rw [HB.out]) | (go_at_call 79; refine (isWidth_any _ _).mono ?_; rintro e w' ⟨rfl, rfl⟩; rw [HW.out]))
          go_ret2
          exact ⟨_, rfl, Own.nil_, Below.refl _ _⟩
        · rw [an_0 hb hw hv hl, Int.toNat_natCast]
          have HB := Lib.hid hb; clear hb
          obtain ⟨hv0, hv1⟩ := hv
          have hwt : inR 40 (wd : Int) = true := inR_true hw.1 hw.2
          have HW := Lib.hid hwt; clear hwt
          go_enter Try.func70, Try.ntmps70
          go_wp2_with (first
            | (go_at_call 66; refine (isBits_any _ _ _ _ _ hr (by omega)).mono ?_; rintro e w' ⟨rfl, rfl⟩; rw [HB.out])
            | (go_at_call 79; refine (isWidth_any _ _).mono ?_; rintro e w' ⟨rfl, rfl⟩; rw [HW.out])
            | (at_make; refine make_cap _ rfl _ _ rfl w.heap.size Try.underlying26 info64 _ _ _ _ xs.length (xs.length + wd) rfl rfl rfl (by omega) (by omega) (by omega) (Nat.le_refl _) ?_; intro w1 o1 b1)
            | (with_reducible refine copy_whole _ rfl (.tmp 36) (.tmp 37) rfl w.heap.size Try.underlying26 info64 _ _ _ _ rfl o1 (by simp) _ _ xs rfl (hr.below b1) ?_; intro w2 o2 b2)
            | (go_at_call 65; refine (push_any w.heap.size _ xs _ _ _ o2 hn (Nat.le_trans b1.size b2.size) (by omega)).mono ?_; rintro e w3 ⟨v3, rfl, o3, b3⟩))
          go_ret2
          exact ⟨_, rfl, o3, (b1.trans b2).trans b3⟩
      · rw [an_2b hb (by simpa using hv)]
        have HB := Lib.hid hb; clear hb
        have hwt : inR 40 (wd : Int) = true := inR_true hw.1 hw.2
        have HW := Lib.hid hwt; clear hwt
        by_cases hv0 : val < 0
        · go_enter Try.func70, Try.ntmps70
          go_wp2_with (first | (go_at_call 66; refine (isBits_any _ _ _ _ _ hr (by omega)).mono ?_; rintro e w' ⟨rfl, rfl⟩; rw [HB.out]) | (go_at_call 79; refine (isWidth_any _ _).mono ?_; rintro e w' ⟨rfl, rfl⟩; rw [HW.out]))
          go_ret2
          exact ⟨_, rfl, Own.nil_, Below.refl _ _⟩
        · have hv1 : 2 ^ wd ≤ val := by omega
          clear hv
          go_enter Try.func70, Try.ntmps70
          go_wp2_with (first | (go_at_call 66; refine (isBits_any _ _ _ _ _ hr (by omega)).mono ?_; rintro e w' ⟨rfl, rfl⟩; rw [HB.out]) | (go_at_call 79; refine (isWidth_any _ _).mono ?_; rintro e w' ⟨rfl, rfl⟩; rw [HW.out]))
          go_ret2
          exact ⟨_, rfl, Own.nil_, Below.refl _ _⟩
    · rw [an_2a hb hw]
      have HB := Lib.hid hb; clear hb
      have hwt : inR 40 width = false := by
        by_cases h : width < 0
        · exact inR_low h
        · exact inR_high (by omega)
      have HW := Lib.hid hwt; clear hwt hw
      go_enter Try.func70, Try.ntmps70
      go_wp2_with (first | (go_at_call 66; refine (isBits_any _ _ _ _ _ hr (by omega)).mono ?_; rintro e w' ⟨rfl, rfl⟩; rw [HB.out]) | (go_at_call 79; refine (isWidth_any _ _).mono ?_; rintro e w' ⟨rfl, rfl⟩; rw [HW.out]))
      go_ret2
      exact ⟨_, rfl, Own.nil_, Below.refl _ _⟩
  · have hb' : isBits xs = false := by simpa using hb
    rw [an_1 hb']
    have HB := Lib.hid hb'; clear hb hb'
    go_enter Try.func70, Try.ntmps70
    go_wp2_with (go_at_call 66; refine (isBits_any _ _ _ _ _ hr (by omega)).mono ?_; rintro e w' ⟨rfl, rfl⟩; rw [HB.out])
    go_ret2
    exact ⟨_, rfl, Own.nil_, Below.refl _ _⟩
end Go.Proofs.Ytadmpfmpmpdbeaa
