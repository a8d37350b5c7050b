/-
  BytesToBits and BitsToBytes, on both sides.
-/
import Derived.Test.YtadmpfmpmpdbeaaC1b
namespace Go.Proofs.Ytadmpfmpmpdbeaa
open Go.RowKit

theorem flat_succ (xs : List Int) (k : Nat) (hk : k < xs.length) : (xs.take (k + 1)).flatMap (bitsOf · 8) = (xs.take k).flatMap (bitsOf · 8) ++ bitsOf (xs.getD k 0) 8 := by
  rw [take_succ' xs k hk, List.flatMap_append]; simp
theorem flat_take_len (xs : List Int) (k : Nat) (hk : k ≤ xs.length) : ((xs.take k).flatMap (bitsOf · 8)).length = 8 * k := by
  rw [flat_len, List.length_take, Nat.min_eq_left hk]
theorem bb_1 {xs : List Int} (h : isBytes xs = false) : bytesToBits xs = ([], 1) := by simp [bytesToBits, h]
theorem bb_0 {xs : List Int} (h : isBytes xs = true) : bytesToBits xs = (xs.flatMap (bitsOf · 8), 0) := by simp [bytesToBits, h]

theorem bytesToBits_any (ao : Option Addr) (cap : Nat) (xs : List Int) (w : World) (hr : Rd w ao xs.length xs) (hn : xs.length ≤ 1048576) :
    Calls Try.prog 25 #[.slice ao xs.length cap] w (Makes2 2 w (bytesToBits xs).1 (bytesToBits xs).2) := by
  by_cases hb : isBytes xs = true
  · have hsz := (isBytes_iff.1 hb).1
    rw [bb_0 hb]
    have HB := Lib.hid hb; clear hb
    go_enter Try.func25, Try.ntmps25
    go_wp2_with (first
      | (go_at_call 55; refine (isBytes_any _ _ _ _ _ hr (by omega)).mono ?_; rintro e w' ⟨rfl, rfl⟩; rw [HB.out])
      | (at_make; refine make_cap _ rfl _ _ rfl w.heap.size Try.underlying26 info64 _ _ _ _ 0 (8 * xs.length) rfl rfl rfl (by omega) (by omega) (by omega) (Nat.le_refl _) ?_; intro w1 o1 b1))
    go_loopw [4, 16] (fun v i wr => ∃ k : Nat, k ≤ xs.length ∧ i = .int .i64 k ∧ Own 2 wr w.heap.size v ((xs.take k).flatMap (bitsOf · 8)) ∧ Below w.heap.size w wr) (fun _ i _ => xs.length - (intOf i).toNat)
    case atStart => exact ⟨0, Nat.zero_le _, rfl, o1, b1⟩
    case round =>
      clear o1 b1
      obtain ⟨k, hk, rfl, hown, hbel⟩ := hrel
      by_cases hlt : k < xs.length
      · obtain ⟨b, off, rfl, hc⟩ := (hr.below hbel).here (by omega)
        have hck := hc k hlt
        have hfl := flat_take_len xs k hk
        have hl2 : ((xs.take k).flatMap (bitsOf · 8)).length ≤ 1048576 := by omega
        have hbs := hbel.size
        clear hc hfl
        have hfs := flat_succ xs k hlt
        obtain ⟨x, hx⟩ : ∃ x, x = xs.getD k 0 := ⟨_, rfl⟩
        rw [← hx] at hck hfs
        have HFS := Lib.hid hfs; clear hfs hx
        have HO := Lib.hid hown; clear hown
        have HBE := Lib.hid hbel; clear hbel
        go_wp2_with (go_at_call 65; refine (push_any w.heap.size _ _ _ 8 _ HO.out hl2 hbs (by omega)).mono ?_; rintro e w3 ⟨v3, rfl, o3, b3⟩)
        have h3 := o3
        rw [← HFS.out] at h3
        have HO3 := Lib.hid h3; clear h3 o3
        go_roundw
        case rel => exact ⟨k + 1, by omega, by go_num, HO3.out, HBE.out.trans b3⟩
        case measure => simp [intOf]; omega
      · have hkn : k = xs.length := by omega
        subst hkn
        have HO := Lib.hid hown; clear hown
        go_wp2
        go_ret2
        exact ⟨_, rfl, by have h := HO.out; rwa [List.take_length] at h, hbel⟩
  · have hb' : isBytes xs = false := by simpa using hb
    rw [bb_1 hb']
    have HB := Lib.hid hb'; clear hb hb'
    go_enter Try.func25, Try.ntmps25
    go_wp2_with (go_at_call 55; refine (isBytes_any _ _ _ _ _ hr (by omega)).mono ?_; rintro e w' ⟨rfl, rfl⟩; rw [HB.out])
    go_ret2
    exact ⟨_, rfl, Own.nil_, Below.refl _ _⟩

/-- spec.l01Bits. -/
theorem l01Bits_any (ao : Option Addr) (cap : Nat) (xs : List Int) (w : World) (hr : Rd w ao xs.length xs) (hn : xs.length ≤ 1048576) :
    Calls Try.prog 61 #[.slice ao xs.length cap] w (Makes 2 w (xs.flatMap (bitsOf · 8))) := by
  go_enter Try.func61, Try.ntmps61
  go_wp2
  go_loopw [3, 4] (fun v i wr => ∃ k : Nat, k ≤ xs.length ∧ i = .int .i64 k ∧ Own 2 wr w.heap.size v ((xs.take k).flatMap (bitsOf · 8)) ∧ Below w.heap.size w wr) (fun _ i _ => xs.length - (intOf i).toNat)
  case atStart => exact ⟨0, Nat.zero_le _, rfl, Own.of_alloc_nil (Nat.le_refl _), (Below.refl _ _).alloc (Nat.le_refl _) _⟩
  case round =>
    obtain ⟨k, hk, rfl, hown, hbel⟩ := hrel
    by_cases hlt : k < xs.length
    · have hfl := flat_take_len xs k hk
      have hl2 : ((xs.take k).flatMap (bitsOf · 8)).length ≤ 8388608 := by omega
      clear hfl
      have hfs := flat_succ xs k hlt
      have HFS := Lib.hid hfs; clear hfs
      have HO := Lib.hid hown; clear hown
      have HBE := Lib.hid hbel; clear hbel
      go_wp2
      go_loopw [3, 5] (fun v i wr' => ∃ s : Nat, s ≤ 8 ∧ i = .int .i64 ((s : Int) - 1) ∧ Own 2 wr' w.heap.size v ((xs.take k).flatMap (bitsOf · 8) ++ topBits (xs.getD k 0) 8 (8 - s)) ∧ Below w.heap.size w wr') (fun _ i _ => (intOf i + 1).toNat)
      case atStart => exact ⟨8, Nat.le_refl _, rfl, by have h := HO.out; simpa [topBits] using h, HBE.out⟩
      case round =>
        clear HO HBE
        obtain ⟨s, hs, rfl, hown, hbel⟩ := hrel
        rcases s with _ | s
        · have e : ((0 : Nat) : Int) - 1 = -1 := by omega
          rw [e]; clear e
          have h := hown
          rw [Nat.sub_zero] at h
          have HW := Lib.hid h; clear hown h
          have HB := Lib.hid hbel; clear hbel
          go_wp2
          go_roundw
          case rel => exact ⟨k + 1, by omega, by go_num, by rw [HFS.out]; exact HW.out, HB.out⟩
          case measure => simp [intOf]; omega
        · have e : ((s + 1 : Nat) : Int) - 1 = (s : Int) := by omega
          rw [e]; clear e
          obtain ⟨b, off, rfl, hc⟩ := (hr.below hbel).here (by omega)
          have hck := hc k hlt
          clear hc
          have hlen := topBits_len (xs.getD k 0) 8 (8 - (s + 1))
          have hl3 : ((xs.take k).flatMap (bitsOf · 8) ++ topBits (xs.getD k 0) 8 (8 - (s + 1))).length ≤ 4294967296 := by rw [List.length_append, hlen]; omega
          clear hlen
          have hsz := hbel.size
          obtain ⟨x, hx⟩ : ∃ x, x = xs.getD k 0 := ⟨_, rfl⟩
          rw [← hx] at hck
          have HX := Lib.hid hx; clear hx
          have HW := Lib.hid hown; clear hown
          have HB := Lib.hid hbel; clear hbel
          go_wp2_with (at_builtin; refine append_one _ rfl (.tmp 17) (.tmp 26) rfl w.heap.size Try.underlying26 info64 _ _ rfl (HW.out.below ((Below.refl _ _).alloc (Nat.le_refl _) _)) _ _ _ rfl (new_cell rfl) hl3 (by simp; omega) ?_; intro v' w' hown hbel)
          have h := hown
          rw [and_one, HX.out, List.append_assoc, show (xs.getD k 0) / 2 ^ s % 2 = bitAt (xs.getD k 0) 8 (8 - (s + 1)) from by unfold bitAt; rw [show 8 - 1 - (8 - (s + 1)) = s from by omega], ← topBits_succ, show 8 - (s + 1) + 1 = 8 - s from by omega] at h
          have HO' := Lib.hid h; clear h hown
          have HB' := Lib.hid hbel; clear hbel
          go_wp2
          go_roundw
          case rel => exact ⟨s, by omega, by go_num, HO'.out, (HB.out.alloc (by omega) _).trans HB'.out⟩
          case measure => simp [intOf]
    · have hkn : k = xs.length := by omega
      subst hkn
      have HO := Lib.hid hown; clear hown
      go_wp2
      go_ret
      exact ⟨_, rfl, by have h := HO.out; rwa [List.take_length] at h, hbel⟩
end Go.Proofs.Ytadmpfmpmpdbeaa
