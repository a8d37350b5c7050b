/-
  BitsToBytes, on both sides.
  FlipBits and DifferingBits, on both sides.
  FlipBits and DifferingBits, on both sides (the loops that write).
  DifferingBits, on both sides.
  BitsText and ReadBits, on both sides.
-/
import Derived.Test.YtpedlofckbplmaaOne
import Derived.Test.YtpedlofckbplmaaBase
import Derived.BigRegion
namespace Go.Proofs.Ytpedlofckbplmaa
section
open Go.RowKit

theorem bytesTo_len (xs : List Int) (j : Nat) : (bytesTo xs j).length = j := by simp [bytesTo]
theorem bytesTo_succ (xs : List Int) (j : Nat) : bytesTo xs (j + 1) = bytesTo xs j ++ [numOf ((xs.drop (8 * j)).take 8)] := by simp [bytesTo, List.range_succ]
theorem bytesTo_getD (xs : List Int) (m k : Nat) (h : k < m) : (bytesTo xs m).getD k 0 = numOf ((xs.drop (8 * k)).take 8) := by
  simp [bytesTo, List.getD, h]
theorem bi_1 {xs : List Int} (h : isBits xs = false) : bitsToBytes xs = ([], 1) := by simp [bitsToBytes, h]
theorem bi_5 {xs : List Int} (h : isBits xs = true) (h2 : xs.length % 8 ≠ 0) : bitsToBytes xs = ([], 5) := by
  unfold bitsToBytes; rw [if_neg (by simp [h]), if_pos h2]
theorem bi_0 {xs : List Int} (h : isBits xs = true) (h2 : xs.length % 8 = 0) : bitsToBytes xs = (bytesTo xs (xs.length / 8), 0) := by
  unfold bitsToBytes; rw [if_neg (by simp [h]), if_neg (by omega)]

end

section
open Go.RowKit

theorem quiet_left {P : Program} {f : FuncId} {args : Array Value} {w : World} {n : Nat} {v : Value}
    (h : Calls P f args (w.drewN n) fun e w' => e = .returned v ∧ w.drewN n = w') : Calls P f args (w.drewN n) fun e w'' => e = .returned v ∧ ∃ m, w'' = w.drewN m :=
  h.mono fun _ _ ⟨he, hm⟩ => ⟨he, n, hm.symm⟩

/-- impl.areIndices. -/
theorem areIndices_any (ao : Option Addr) (n cap : Nat) (ids : List Int) (m : Int) (w : World) (hr : Rd w ao n ids) (hn : n ≤ 9223372036854775807) :
    Calls Try.prog 75 #[.slice ao n cap, .int .i64 m] w fun e w' => e = .returned (.bool (rises m ids)) ∧ w = w' := by
  obtain ⟨hlen, hat⟩ := hr
  have HL := Lib.hid hlen; clear hlen
  have HA := Lib.hid hat; clear hat
  go_enter Try.func75, Try.ntmps75
  go_wp2
  go_loop [5, 10] (fun v i => ∃ k : Nat, k ≤ n ∧ i = .int .i64 k ∧ v = .int .i64 (prev ids k) ∧ Hid (∀ i, i < k → stepOk m ids i)) (fun _ i => n - (intOf i).toNat)
  case atStart => exact ⟨0, Nat.zero_le _, rfl, rfl, fun i hi => absurd hi (by omega)⟩
  case round =>
    obtain ⟨k, hk, rfl, rfl, hall⟩ := hrel
    by_cases hlt : k < n
    · obtain ⟨b, off, rfl, hc⟩ := HA.out (by omega)
      have hck := hc k hlt
      clear hc HA
      have hkx : k < ids.length := by rw [HL.out]; exact hlt
      have hps := prev_succ ids k
      obtain ⟨x, hx⟩ : ∃ x, x = ids.getD k 0 := ⟨_, rfl⟩
      obtain ⟨p, hp⟩ : ∃ p, p = prev ids k := ⟨_, rfl⟩
      have hso : stepOk m ids k ↔ p < x ∧ x < m := by unfold stepOk; rw [← hp, ← hx]
      rw [← hx] at hck hps
      rw [← hp]
      have HX := Lib.hid hso; clear hso
      have HK := Lib.hid hkx; clear hkx
      have HP := Lib.hid hps; clear hps hp hx
      by_cases h0 : x ≤ p
      · go_wp2
        go_ret
        exact ⟨ret_bool (rises_no HK.out (fun h => by have := HX.out.1 h; omega)).symm, rfl⟩
      · by_cases h1 : m ≤ x
        · go_wp2
          go_ret
          exact ⟨ret_bool (rises_no HK.out (fun h => by have := HX.out.1 h; omega)).symm, rfl⟩
        · go_wp2
          go_round
          case rel => exact ⟨k + 1, by omega, by go_num, by rw [HP.out], stepOk_succ hall.out (HX.out.2 ⟨by omega, by omega⟩)⟩
          case measure => simp [intOf]; omega
    · have hkn : k = n := by omega
      subst hkn
      have hfin := rises_yes (n := m) (ids := ids) (by rw [HL.out]; exact hall.out)
      have HF := Lib.hid hfin; clear hfin
      go_wp2
      go_ret
      exact ⟨ret_bool HF.out.symm, rfl⟩

/-- spec.l01Rises. -/
theorem l01Rises_any (ao : Option Addr) (n cap : Nat) (ids : List Int) (m : Int) (w : World) (hr : Rd w ao n ids) (hn : n ≤ 9223372036854775807) (hm : 0 ≤ m) (hm2 : m ≤ 4294967296) :
    Calls Try.prog 77 #[.slice ao n cap, .int .i64 m] w fun e w' => e = .returned (.bool (rises m ids)) ∧ Below w.heap.size w w' := by
  have hlen := hr.len
  have HL := Lib.hid hlen; clear hlen
  go_enter Try.func77, Try.ntmps77
  go_wp2
  go_loopw [5] (fun i wr => ∃ k : Nat, k ≤ n ∧ i = .int .i64 k ∧ Hid (∀ i, i < k → stepOk m ids i) ∧ Below w.heap.size w wr) (fun i _ => n - (intOf i).toNat)
  case atStart => exact ⟨0, Nat.zero_le _, rfl, fun i hi => absurd hi (by omega), Below.refl _ _⟩
  case round =>
    obtain ⟨k, hk, rfl, hall, hbel⟩ := hrel
    by_cases hlt : k < n
    · have hrr := hr.below hbel
      obtain ⟨b, off, rfl, hc⟩ := hrr.here (by omega)
      have hck := hc k hlt
      have hcp : 0 < k → wr.cell? ⟨b, off + (k - 1), none⟩ = some (.int .i64 (ids.getD (k - 1) 0)) := fun _ => hc (k - 1) (by omega)
      clear hc
      have hkx : k < ids.length := by rw [HL.out]; exact hlt
      have hpl := prev_low hall.out
      obtain ⟨x, hx⟩ : ∃ x, x = ids.getD k 0 := ⟨_, rfl⟩
      have hso : stepOk m ids k ↔ prev ids k < x ∧ x < m := by unfold stepOk; rw [← hx]
      rw [← hx] at hck
      have HX := Lib.hid hso; clear hso hx
      have HK := Lib.hid hkx; clear hkx
      have HB := Lib.hid hbel; clear hbel
      by_cases hin : 0 ≤ x ∧ x ≤ m - 1
      · obtain ⟨h0, h1⟩ := hin
        rcases k with _ | k
        · rw [Nat.add_zero] at hck
          clear hcp
          have hso : stepOk m ids 0 := HX.out.2 ⟨by rw [prev_zero]; omega, by omega⟩
          have HS := Lib.hid hso; clear hso
          go_wp2
          go_quiet ((go_at_call 63; exact quiet_left (l01In_yes _ _ _ _ h0 h1)))
          go_wp2
          go_roundw
          case rel => exact ⟨1, by omega, rfl, stepOk_succ hall.out HS.out, below_drewN' HB.out _⟩
          case measure => simp [intOf]; omega
        · have hcq := hcp (by omega)
          rw [Nat.add_sub_cancel] at hcq
          clear hcp
          have hps := prev_succ ids k
          obtain ⟨p, hp⟩ : ∃ p, p = ids.getD k 0 := ⟨_, rfl⟩
          rw [← hp] at hcq hps
          have hso : stepOk m ids (k + 1) ↔ p < x ∧ x < m := by rw [← hps]; exact HX.out
          have HX := Lib.hid hso; clear hso hps hp
          have hgt : (0 : Int) < ((k + 1 : Nat) : Int) := by omega
          by_cases hxp : x ≤ p
          · go_wp2
            go_quiet ((go_at_call 63; exact quiet_left (l01In_yes _ _ _ _ h0 h1)))
            go_wp2
            go_ret
            exact ⟨ret_bool (rises_no HK.out (fun h => by have := HX.out.1 h; omega)).symm, below_drewN' HB.out _⟩
          · have hd : decide (x ≤ p) = false := decide_eq_false hxp
            have hso2 : stepOk m ids (k + 1) := HX.out.2 ⟨by omega, by omega⟩
            have HS := Lib.hid hso2; clear hso2
            go_wp2
            go_quiet ((go_at_call 63; exact quiet_left (l01In_yes _ _ _ _ h0 h1)))
            go_wp2
            go_roundw
            case rel => exact ⟨k + 1 + 1, by omega, by go_num, stepOk_succ hall.out HS.out, below_drewN' HB.out _⟩
            case measure => simp [intOf]; omega
      · have hin' : x < 0 ∨ m - 1 < x := by omega
        have HI := Lib.hid hin'; clear hin hin'
        go_wp2
        go_quiet ((go_at_call 63; exact quiet_left (l01In_no _ _ _ _ HI.out)))
        go_wp2
        go_ret
        exact ⟨ret_bool (rises_no HK.out (fun h => by have := HX.out.1 h; have := HI.out; omega)).symm, by have := HB.out; exact below_drewN' this _⟩
    · have hkn : k = n := by omega
      subst hkn
      have hfin := rises_yes (n := m) (ids := ids) (by rw [HL.out]; exact hall.out)
      have HF := Lib.hid hfin; clear hfin
      go_wp2
      go_ret
      exact ⟨ret_bool HF.out.symm, hbel⟩
end

section
open Go.RowKit

theorem rises_at {n : Int} {ids : List Int} (h : rises n ids = true) {k : Nat} (hk : k < ids.length) : 0 ≤ ids.getD k 0 ∧ ids.getD k 0 < n := by
  have h1 := rises_iff.1 h
  have h2 := prev_low (k := k) fun i hi => h1 i (by omega)
  have h3 := h1 k hk
  exact ⟨by have := h3.1; omega, h3.2⟩
theorem flips_succ (xs ids : List Int) (k : Nat) (hk : k < ids.length) : flips xs (ids.take (k + 1)) = (flips xs (ids.take k)).set (ids.getD k 0).toNat (1 - (flips xs (ids.take k)).getD (ids.getD k 0).toNat 0) := by
  rw [take_succ' ids k hk, flips_snoc]

end

section
open Go.RowKit

end

section
open Go.RowKit

theorem infoU8 : (Try.prog.info? 5).map (fun i => (i.zero, i.size, i.bytes)) = some (some (.int .u8 0), 1, 1) := by kernel_rfl

def bitsText (xs : List Int) : ByteArray := if isBits xs = false then ByteArray.empty else strOfNums (xs.map fun x => 48 + x)
def isDigit01 (c : Int) : Bool := c == 48 || c == 49
def readBits (cs : List Int) : List Int × Bool := if 8192 < cs.length then ([], false) else if cs.all isDigit01 = true then (cs.map fun c => c - 48, true) else ([], false)
theorem bt_no {xs : List Int} (h : isBits xs = false) : bitsText xs = ByteArray.empty := by simp [bitsText, h]
theorem bt_yes {xs : List Int} (h : isBits xs = true) : bitsText xs = strOfNums (xs.map fun x => 48 + x) := by simp [bitsText, h]
theorem rb_long {cs : List Int} (h : 8192 < cs.length) : readBits cs = ([], false) := by simp [readBits, h]
theorem rb_no {cs : List Int} {k : Nat} (hk : k < cs.length) (h : isDigit01 (cs.getD k 0) = false) : readBits cs = ([], false) := by
  unfold readBits
  split
  · rfl
  · rw [if_neg]
    rw [List.getD, List.getElem?_eq_getElem hk] at h
    intro hh
    have := List.all_eq_true.1 hh cs[k] (List.getElem_mem hk)
    simp at h
    rw [h] at this
    cases this
theorem rb_yes {cs : List Int} (h : ¬ 8192 < cs.length) (h2 : cs.all isDigit01 = true) : readBits cs = (cs.map fun c => c - 48, true) := by simp [readBits, h, h2]
theorem readBits_len (cs : List Int) : (readBits cs).1.length ≤ 8192 := by
  unfold readBits
  split
  · simp
  · split
    · rw [List.length_map]; omega
    · simp
theorem all_succ {p : Int → Bool} {cs : List Int} {k : Nat} (hk : k < cs.length) (h : (cs.take k).all p = true) (hp : p (cs.getD k 0) = true) : (cs.take (k + 1)).all p = true := by
  rw [take_succ' cs k hk, List.all_append, h]; simp only [List.all_cons, List.all_nil, hp, Bool.and_self]

theorem isDigit01_no {c : Int} (h0 : ¬ c = 48) (h1 : ¬ c = 49) : isDigit01 c = false := by simp [isDigit01, h0, h1]

end
end Go.Proofs.Ytpedlofckbplmaa
