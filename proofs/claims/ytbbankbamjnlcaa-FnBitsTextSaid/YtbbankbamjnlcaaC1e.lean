/-
  FlipBits and DifferingBits, on both sides.
-/
import Derived.Test.YtbbankbamjnlcaaC1
import Derived.Test.YtbbankbamjnlcaaPlain2
import Derived.BigRegion
namespace Go.Proofs.Ytbbankbamjnlcaa
open Go.RowKit

theorem quiet_left {P : Program} {f : FuncId} {args : Array Value} {w : World} {n : Nat} {v : Value}
    (h : Calls P f args (w.drewN n) fun e w' => e = .returned v ∧ w.drewN n = w') : Calls P f args (w.drewN n) fun e w'' => e = .returned v ∧ ∃ m, w'' = w.drewN m :=
  h.mono fun _ _ ⟨he, hm⟩ => ⟨he, n, hm.symm⟩

/-- impl.areIndices. -/
theorem areIndices_any (ao : Option Addr) (n cap : Nat) (ids : List Int) (m : Int) (w : World) (hr : Rd w ao n ids) (hn : n ≤ 9223372036854775807) :
    Calls Try.prog 68 #[.slice ao n cap, .int .i64 m] w fun e w' => e = .returned (.bool (rises m ids)) ∧ w = w' := by
  obtain ⟨hlen, hat⟩ := hr
  have HL := Lib.hid hlen; clear hlen
  have HA := Lib.hid hat; clear hat
  go_enter Try.func68, Try.ntmps68
  go_wp2
  go_loop [5, 10] (fun v i => ∃ k : Nat, k ≤ n ∧ i = .int .i64 k ∧ v = .int .i64 (prev ids k) ∧ Hid (∀ i, i < k → stepOk m ids i)) (fun _ i => n - (intOf i).toNat)
  case atStart => exact ⟨0, Nat.zero_le _, rfl, rfl, fun i hi => absurd hi (by omega)⟩
  case round =>
    obtain ⟨k, hk, rfl, rfl, hall⟩ := hrel
    by_cases hlt : k < n
    · obtain ⟨b, off, rfl, hc⟩ := HA.out (by omega)
      have hck := hc k hlt
      clear hc HA
      have hkx : k < ids.length := by rw [HL.out]; exact hlt
      have hps := prev_succ ids k
      obtain ⟨x, hx⟩ : ∃ x, x = ids.getD k 0 := ⟨_, rfl⟩
      obtain ⟨p, hp⟩ : ∃ p, p = prev ids k := ⟨_, rfl⟩
      have hso : stepOk m ids k ↔ p < x ∧ x < m := by unfold stepOk; rw [← hp, ← hx]
      rw [← hx] at hck hps
      rw [← hp]
      have HX := Lib.hid hso; clear hso
      have HK := Lib.hid hkx; clear hkx
      have HP := Lib.hid hps; clear hps hp hx
      by_cases h0 : x ≤ p
      · go_wp2
        go_ret
        exact ⟨ret_bool (rises_no HK.out (fun h => by have := HX.out.1 h; omega)).symm, rfl⟩
      · by_cases h1 : m ≤ x
        · go_wp2
          go_ret
          exact ⟨ret_bool (rises_no HK.out (fun h => by have := HX.out.1 h; omega)).symm, rfl⟩
        · go_wp2
          go_round
          case rel => exact ⟨k + 1, by omega, by go_num, by rw [HP.out], stepOk_succ hall.out (HX.out.2 ⟨by omega, by omega⟩)⟩
          case measure => simp [intOf]; omega
    · have hkn : k = n := by omega
      subst hkn
      have hfin := rises_yes (n := m) (ids := ids) (by rw [HL.out]; exact hall.out)
      have HF := Lib.hid hfin; clear hfin
      go_wp2
      go_ret
      exact ⟨ret_bool HF.out.symm, rfl⟩

/-- spec.l01Rises. -/
theorem l01Rises_any (ao : Option Addr) (n cap : Nat) (ids : List Int) (m : Int) (w : World) (hr : Rd w ao n ids) (hn : n ≤ 9223372036854775807) (hm : 0 ≤ m) (hm2 : m ≤ 4294967296) :
    Calls Try.prog 69 #[.slice ao n cap, .int .i64 m] w fun e w' => e = .returned (.bool (rises m ids)) ∧ Below w.heap.size w w' := by
  have hlen := hr.len
  have HL := Lib.hid hlen; clear hlen
  go_enter Try.func69, Try.ntmps69
  go_wp2
  go_loopw [5] (fun i wr => ∃ k : Nat, k ≤ n ∧ i = .int .i64 k ∧ Hid (∀ i, i < k → stepOk m ids i) ∧ Below w.heap.size w wr) (fun i _ => n - (intOf i).toNat)
  case atStart => exact ⟨0, Nat.zero_le _, rfl, fun i hi => absurd hi (by omega), Below.refl _ _⟩
  case round =>
    obtain ⟨k, hk, rfl, hall, hbel⟩ := hrel
    by_cases hlt : k < n
    · have hrr := hr.below hbel
      obtain ⟨b, off, rfl, hc⟩ := hrr.here (by omega)
      have hck := hc k hlt
      have hcp : 0 < k → wr.cell? ⟨b, off + (k - 1), none⟩ = some (.int .i64 (ids.getD (k - 1) 0)) := fun _ => hc (k - 1) (by omega)
      clear hc
      have hkx : k < ids.length := by rw [HL.out]; exact hlt
      have hpl := prev_low hall.out
      obtain ⟨x, hx⟩ : ∃ x, x = ids.getD k 0 := ⟨_, rfl⟩
      have hso : stepOk m ids k ↔ prev ids k < x ∧ x < m := by unfold stepOk; rw [← hx]
      rw [← hx] at hck
      have HX := Lib.hid hso; clear hso hx
      have HK := Lib.hid hkx; clear hkx
      have HB := Lib.hid hbel; clear hbel
      by_cases hin : 0 ≤ x ∧ x ≤ m - 1
      · obtain ⟨h0, h1⟩ := hin
        rcases k with _ | k
        · rw [Nat.add_zero] at hck
          clear hcp
          have hso : stepOk m ids 0 := HX.out.2 ⟨by rw [prev_zero]; omega, by omega⟩
          have HS := Lib.hid hso; clear hso
          go_wp2
          go_quiet ((go_at_call 57; exact quiet_left (l01In_yes _ _ _ _ h0 h1)))
          go_wp2
          go_roundw
          case rel => exact ⟨1, by omega, rfl, stepOk_succ hall.out HS.out, below_drewN' HB.out _⟩
          case measure => simp [intOf]; omega
        · have hcq := hcp (by omega)
          rw [Nat.add_sub_cancel] at hcq
          clear hcp
          have hps := prev_succ ids k
          obtain ⟨p, hp⟩ : ∃ p, p = ids.getD k 0 := ⟨_, rfl⟩
          rw [← hp] at hcq hps
          have hso : stepOk m ids (k + 1) ↔ p < x ∧ x < m := by rw [← hps]; exact HX.out
          have HX := Lib.hid hso; clear hso hps hp
          have hgt : (0 : Int) < ((k + 1 : Nat) : Int) := by omega
          by_cases hxp : x ≤ p
          · go_wp2
            go_quiet ((go_at_call 57; exact quiet_left (l01In_yes _ _ _ _ h0 h1)))
            go_wp2
            go_ret
            exact ⟨ret_bool (rises_no HK.out (fun h => by have := HX.out.1 h; omega)).symm, below_drewN' HB.out _⟩
          · have hd : decide (x ≤ p) = false := decide_eq_false hxp
            have hso2 : stepOk m ids (k + 1) := HX.out.2 ⟨by omega, by omega⟩
            have HS := Lib.hid hso2; clear hso2
            go_wp2
            go_quiet ((go_at_call 57; exact quiet_left (l01In_yes _ _ _ _ h0 h1)))
            go_wp2
            go_roundw
            case rel => exact ⟨k + 1 + 1, by omega, by go_num, stepOk_succ hall.out HS.out, below_drewN' HB.out _⟩
            case measure => simp [intOf]; omega
      · have hin' : x < 0 ∨ m - 1 < x := by omega
        have HI := Lib.hid hin'; clear hin hin'
        go_wp2
        go_quiet ((go_at_call 57; exact quiet_left (l01In_no _ _ _ _ HI.out)))
        go_wp2
        go_ret
        exact ⟨ret_bool (rises_no HK.out (fun h => by have := HX.out.1 h; have := HI.out; omega)).symm, by have := HB.out; exact below_drewN' this _⟩
    · have hkn : k = n := by omega
      subst hkn
      have hfin := rises_yes (n := m) (ids := ids) (by rw [HL.out]; exact hall.out)
      have HF := Lib.hid hfin; clear hfin
      go_wp2
      go_ret
      exact ⟨ret_bool HF.out.symm, hbel⟩
end Go.Proofs.Ytbbankbamjnlcaa
