/-
  spec.l02Feed.
-/
import Derived.Test.YtadmpfmpmpdbeaaC2
import Derived.BigQuiet
namespace Go.Proofs.Ytadmpfmpmpdbeaa
open Go.RowKit

theorem feed_any (W : Nat) (g r : BitVec W) (ao : Option Addr) (n cap : Nat) (xs : List Int) (w : World) (h1 : 3 ≤ W) (h2 : W ≤ 24) (hr : Rd w ao n xs) (hn : n ≤ 1048576) (hbits : ∀ x ∈ xs, 0 ≤ x ∧ x ≤ 1) :
    Calls Try.prog 60 #[.agg #[.int .i64 W, .int .i64 g.toNat], .int .i64 r.toNat, .slice ao n cap] w fun e w' => e = .returned (.int .i64 (regOf g r xs)) ∧ Below w.heap.size w w' := by
  obtain ⟨hlen, hat⟩ := hr
  have HL := Lib.hid hlen; clear hlen
  have HA := Lib.hid hat; clear hat
  have HZ := Lib.hid hbits; clear hbits
  have hp := pow40 W (by omega)
  have hp1 := pow40 (W - 1) (by omega)
  obtain ⟨G, hG⟩ : ∃ G, G = (g.toNat : Int) := ⟨_, rfl⟩
  rw [← hG]
  have HG := Lib.hid hG; clear hG
  have hb0 : Below w.heap.size w (w.alloc (.cells #[.int .i64 W, .int .i64 G] 25)) := (Below.refl _ _).alloc (Nat.le_refl _) _
  go_enter Try.func60, Try.ntmps60
  go_wp2
  go_loopw [1, 8] (fun v i wr => ∃ (k : Nat) (y : BitVec W) (q : Nat), k ≤ n ∧ i = .int .i64 k ∧ v = .int .i64 y.toNat ∧ Hid (fbs g r (bl (xs.take k)) = y) ∧ wr = (w.alloc (.cells #[.int .i64 W, .int .i64 G] 25)).drewN q) (fun _ i _ => n - (intOf i).toNat)
  case atStart => exact ⟨0, r, 0, Nat.zero_le _, rfl, rfl, rfl, rfl⟩
  case round =>
    obtain ⟨k, y, q, hk, rfl, rfl, HY, rfl⟩ := hrel
    by_cases hlt : k < n
    · obtain ⟨b, off, rfl, hall⟩ := HA.out (by omega)
      have hck := hall k hlt
      have hblt : b < w.heap.size := World.block_lt_of_cell? w _ hck
      clear hall
      have hkx : k < xs.length := by rw [HL.out]; exact hlt
      have hbx := HZ.out (xs.getD k 0) (getD_mem' hkx)
      have hfin : fbs g r (bl (xs.take (k + 1))) = fb g y (decide (xs.getD k 0 = 1)) := by rw [fbs_take xs k hkx, HY.out]
      obtain ⟨x, hx⟩ : ∃ x, x = xs.getD k 0 := ⟨_, rfl⟩
      rw [← hx] at hck hbx hfin
      clear hx hkx HZ HY HA HL
      have hck' := (hb0.cell (p := ⟨b, off + k, none⟩) hblt).trans hck
      have ht := step_xor (r := y) (W := W) (by omega) x hbx
      have hrm := reg_rem (r := y) (W := W) (by omega)
      have hy := reg_lt h2 y
      rcases hm : (y.msb ^^ decide (x = 1)) with _ | _
      · rw [hm] at ht
        rw [fb_f hm] at hfin
        obtain ⟨R, hR⟩ : ∃ R, R = (y.toNat : Int) := ⟨_, rfl⟩
        obtain ⟨D, hD⟩ : ∃ D, D = ((y <<< 1).toNat : Int) := ⟨_, rfl⟩
        rw [← hR] at ht hrm hy ⊢
        rw [← hD] at hrm
        obtain ⟨hr0, hr1⟩ := hy
        have HD := Lib.hid hD; clear hD
        have HF := Lib.hid hfin; clear hfin hm hR
        have HRM := Lib.hid hrm; clear hrm
        go_wp2
        go_quiet (fail)
        go_wp2
        go_roundw
        case rel => exact ⟨k + 1, y <<< 1, _, by omega, by go_num, by rw [HRM.out, HD.out], HF.out, rfl⟩
        case measure => simp [intOf]; omega
      · rw [hm] at ht
        rw [fb_t hm] at hfin
        have hx := reg_xor h2 (y <<< 1) g
        rw [← hrm, ← HG.out] at hx
        obtain ⟨R, hR⟩ : ∃ R, R = (y.toNat : Int) := ⟨_, rfl⟩
        obtain ⟨D, hD⟩ : ∃ D, D = ((y <<< 1 ^^^ g).toNat : Int) := ⟨_, rfl⟩
        rw [← hR] at ht hx hy ⊢
        rw [← hD] at hx
        obtain ⟨hr0, hr1⟩ := hy
        have HD := Lib.hid hD; clear hD
        have HF := Lib.hid hfin; clear hfin hm hR hrm
        have HX := Lib.hid hx; clear hx
        go_wp2
        go_quiet (fail)
        go_wp2
        go_roundw
        case rel => exact ⟨k + 1, y <<< 1 ^^^ g, _, by omega, by go_num, by rw [HX.out, HD.out], HF.out, rfl⟩
        case measure => simp [intOf]; omega
    · have hkn : k = n := by omega
      subst hkn
      have hfin : (y.toNat : Int) = regOf g r xs := by unfold regOf; rw [← HY.out, List.take_of_length_le (by rw [HL.out]; exact Nat.le_refl _)]
      have HF := Lib.hid hfin; clear hfin
      have HB := Lib.hid (below_drewN' hb0 q); clear hb0
      go_wp2
      go_ret
      exact ⟨ret_int HF.out, HB.out⟩
end Go.Proofs.Ytadmpfmpmpdbeaa
