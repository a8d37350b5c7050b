/-
  Chapter 2: a register fed with a bit and with a list of bits, on both sides; valid codes.
-/
import Derived.Test.YtadmpfmpmpdbeaaPlainC
import Derived.Deep.QuietTactic
namespace Go.Proofs.Ytadmpfmpmpdbeaa
open Go.RowKit

/-- A quiet call whose contract says 'w = w''. -/
theorem quiet_w {P : Program} {f : FuncId} {args : Array Value} {w : World} {n : Nat} {v : Value}
    (h : Calls P f args (w.drewN n) fun e w' => e = .returned v ∧ w.drewN n = w') : Calls P f args (w.drewN n) fun e w'' => e = .returned v ∧ ∃ m, w'' = w.drewN m :=
  h.mono fun _ _ ⟨he, hm⟩ => ⟨he, n, hm.symm⟩
/-- impl.greatestRegister. -/
theorem great_any (W : Nat) (w : World) (h : W ≤ 24) : Calls Try.prog 63 #[.int .i64 W] w fun e w' => e = .returned (.int .i64 (2 ^ W - 1)) ∧ w = w' := by
  have hp := pow40 W (by omega)
  go_enter Try.func63, Try.ntmps63
  go_wp2
  go_ret
  exact ⟨rfl, rfl⟩
/-- The first two cells of a cyclicCode, or of a Crc: width and polynomial. -/
def CodeAt (w : World) (p W : Nat) (G : Int) : Prop := w.cell? ⟨p, 0, none⟩ = some (.int .i64 W) ∧ w.cell? ⟨p, 1, none⟩ = some (.int .i64 G)
theorem afterBit_any (p W : Nat) (g r : BitVec W) (B : Int) (w : World) (h1 : 3 ≤ W) (h2 : W ≤ 24) (hc : CodeAt w p W g.toNat) (hB : 0 ≤ B ∧ B ≤ 1) :
    Calls Try.prog 75 #[.pointer (some ⟨p, 0, none⟩), .int .i64 r.toNat, .int .i64 B] w fun e w' => e = .returned (.int .i64 (fb g r (decide (B = 1))).toNat) ∧ w = w' := by
  obtain ⟨hc0, hc1⟩ := hc
  have hp := pow40 W (by omega)
  have hr := reg_lt h2 r
  have ht := step_ne (r := r) (W := W) (by omega) B hB
  have hd := reg_double (r := r) h2
  rcases hm : (r.msb ^^ decide (B = 1)) with _ | _
  · rw [hm] at ht
    rw [fb_f hm]
    obtain ⟨R, hR⟩ : ∃ R, R = (r.toNat : Int) := ⟨_, rfl⟩
    obtain ⟨D, hD⟩ : ∃ D, D = ((r <<< 1).toNat : Int) := ⟨_, rfl⟩
    rw [← hR] at ht hd hr ⊢
    rw [← hD] at hd ⊢
    obtain ⟨hr0, hr1⟩ := hr
    have HD := Lib.hid hd; clear hd hR hD hm
    go_enter Try.func75, Try.ntmps75
    go_wp2_with fail
    refine (great_any _ _ h2).mono ?_
    rintro e w' ⟨rfl, rfl⟩
    go_wp2
    go_ret
    exact ⟨ret_int HD.out, rfl⟩
  · rw [hm] at ht
    rw [fb_t hm]
    have hx := reg_xor h2 (r <<< 1) g
    rw [← hd] at hx
    obtain ⟨R, hR⟩ : ∃ R, R = (r.toNat : Int) := ⟨_, rfl⟩
    obtain ⟨D, hD⟩ : ∃ D, D = ((r <<< 1 ^^^ g).toNat : Int) := ⟨_, rfl⟩
    obtain ⟨G, hG⟩ : ∃ G, G = (g.toNat : Int) := ⟨_, rfl⟩
    rw [← hR] at ht hx hr ⊢
    rw [← hD] at hx ⊢
    rw [← hG] at hx hc1
    obtain ⟨hr0, hr1⟩ := hr
    have HD := Lib.hid hx; clear hd hx hR hD hG hm
    go_enter Try.func75, Try.ntmps75
    go_wp2_with fail
    refine (great_any _ _ h2).mono ?_
    rintro e w' ⟨rfl, rfl⟩
    go_wp2
    go_ret
    exact ⟨ret_int HD.out, rfl⟩

theorem afterBits_any (p W : Nat) (g r : BitVec W) (ao : Option Addr) (n cap : Nat) (xs : List Int) (w : World) (h1 : 3 ≤ W) (h2 : W ≤ 24) (hc : CodeAt w p W g.toNat) (hr : Rd w ao n xs) (hn : n ≤ 1048576) (hbits : ∀ x ∈ xs, 0 ≤ x ∧ x ≤ 1) :
    Calls Try.prog 67 #[.pointer (some ⟨p, 0, none⟩), .int .i64 r.toNat, .slice ao n cap] w fun e w' => e = .returned (.int .i64 (regOf g r xs)) ∧ w = w' := by
  obtain ⟨hlen, hat⟩ := hr
  have HL := Lib.hid hlen; clear hlen
  have HA := Lib.hid hat; clear hat
  have HZ := Lib.hid hbits; clear hbits
  have HC := Lib.hid hc; clear hc
  go_enter Try.func67, Try.ntmps67
  go_wp2
  go_loop [1, 11] (fun v i => ∃ (k : Nat) (y : BitVec W), k ≤ n ∧ i = .int .i64 k ∧ v = .int .i64 y.toNat ∧ Hid (fbs g r (bl (xs.take k)) = y)) (fun _ i => n - (intOf i).toNat)
  case atStart => exact ⟨0, r, Nat.zero_le _, rfl, rfl, rfl⟩
  case round =>
    obtain ⟨k, y, hk, rfl, rfl, HY⟩ := hrel
    by_cases hlt : k < n
    · obtain ⟨b, off, rfl, hall⟩ := HA.out (by omega)
      have hck := hall k hlt
      clear hall
      have hkx : k < xs.length := by rw [HL.out]; exact hlt
      have hb0 := HZ.out (xs.getD k 0) (getD_mem' hkx)
      have hfin : fbs g r (bl (xs.take (k + 1))) = fb g y (decide (xs.getD k 0 = 1)) := by rw [fbs_take xs k hkx, HY.out]
      obtain ⟨x, hx⟩ : ∃ x, x = xs.getD k 0 := ⟨_, rfl⟩
      rw [← hx] at hck hb0 hfin
      obtain ⟨z, hz⟩ : ∃ z, z = fb g y (decide (x = 1)) := ⟨_, rfl⟩
      rw [← hz] at hfin
      have HF := Lib.hid hfin; clear hfin hx hkx HZ
      have HZ := Lib.hid hz; clear hz
      have HB := Lib.hid hb0; clear hb0
      go_wp2_with fail
      refine (afterBit_any p W g y x _ h1 h2 HC.out HB.out).mono ?_
      rintro e w' ⟨rfl, rfl⟩
      rw [← HZ.out]
      go_wp2
      go_round
      case rel => exact ⟨k + 1, z, by omega, by go_num, rfl, HF.out⟩
      case measure => simp [intOf]; omega
    · have hkn : k = n := by omega
      subst hkn
      have hfin : (y.toNat : Int) = regOf g r xs := by unfold regOf; rw [← HY.out, List.take_of_length_le (by rw [HL.out]; exact Nat.le_refl _)]
      have HF := Lib.hid hfin; clear hfin
      go_wp2
      go_ret
      exact ⟨ret_int HF.out, rfl⟩
end Go.Proofs.Ytadmpfmpmpdbeaa
