/-
  The number in some bytes.
-/
import Derived.Test.YtpedlofckbplmaaOneB
namespace Go.Proofs.Ytpedlofckbplmaa
open Go.RowKit

def byteNum (xs : List Int) : Int := xs.foldl (fun a v => a * 256 + v) 0
theorem byteNum_snoc (xs : List Int) (x : Int) : byteNum (xs ++ [x]) = byteNum xs * 256 + x := by unfold byteNum; rw [List.foldl_append]; rfl
theorem byteNum_in {xs : List Int} (h : ∀ x ∈ xs, 0 ≤ x ∧ x ≤ 255) (hl : xs.length ≤ 2) : 0 ≤ byteNum xs ∧ byteNum xs ≤ 65535 := by
  match xs, hl with
  | [], _ => simp [byteNum]
  | [a], _ => have := h a (by simp); simp [byteNum]; omega
  | [a, b], _ => have := h a (by simp); have := h b (by simp); simp [byteNum]; omega
theorem byte_take {xs : List Int} (h : ∀ x ∈ xs, 0 ≤ x ∧ x ≤ 255) (s : Nat) : ∀ x ∈ xs.take s, 0 ≤ x ∧ x ≤ 255 := fun x hx => h x (List.mem_of_mem_take hx)
theorem byteNum_in3 {xs : List Int} (h : ∀ x ∈ xs, 0 ≤ x ∧ x ≤ 255) (hl : xs.length ≤ 3) : 0 ≤ byteNum xs ∧ byteNum xs ≤ 16777215 := by
  match xs, hl with
  | [], _ => simp [byteNum]
  | [a], _ => have := h a (by simp); simp [byteNum]; omega
  | [a, b], _ => have := h a (by simp); have := h b (by simp); simp [byteNum]; omega
  | [a, b, c], _ => have := h a (by simp); have := h b (by simp); have := h c (by simp); simp [byteNum]; omega
theorem byteNum_three {xs : List Int} (h : 3 ≤ xs.length) : byteNum (xs.take 3) = xs.getD 0 0 * 65536 + xs.getD 1 0 * 256 + xs.getD 2 0 := by
  match xs, h with
  | a :: b :: c :: r, _ => simp [byteNum]; omega
/-- impl.numberOfBytes. -/
theorem numberOfBytes_any (ao : Option Addr) (s cap : Nat) (xs : List Int) (w : World) (hr : Rd w ao s xs) (h3 : s ≤ 3) (hby : ∀ x ∈ xs, 0 ≤ x ∧ x ≤ 255) :
    Calls Try.prog 126 #[.slice ao s cap] w fun e w' => e = .returned (.int .i64 (byteNum xs)) ∧ w' = w := by
  have HL := Lib.hid hr.len; have HR := Lib.hid hr; have HBY := Lib.hid hby; clear hr hby
  go_enter Try.func126, Try.ntmps126
  go_wp2_with fail
  go_loopw [3, 8] (fun v i wr => ∃ k : Nat, k ≤ s ∧ i = .int .i64 k ∧ v = .int .i64 (byteNum (xs.take k)) ∧ wr = w) (fun _ i _ => s - (intOf i).toNat)
  case atStart => exact ⟨0, Nat.zero_le _, rfl, rfl, rfl⟩
  case round =>
    obtain ⟨k, hk, rfl, rfl, rfl⟩ := hrel
    have hb := byteNum_in3 (byte_take HBY.out k) (by rw [List.length_take, HL.out]; omega)
    by_cases hlt : k < s
    · obtain ⟨b, off, rfl, hc⟩ := HR.out.here (by omega)
      have hck := hc k hlt
      have hx := HBY.out _ (getD_mem' (xs := xs) (k := k) (by rw [HL.out]; exact hlt))
      have hsn : byteNum (xs.take (k + 1)) = byteNum (xs.take k) * 256 + xs.getD k 0 := by rw [take_succ' xs k (by rw [HL.out]; exact hlt), byteNum_snoc]
      obtain ⟨v, hv⟩ : ∃ v, v = byteNum (xs.take k) := ⟨_, rfl⟩
      obtain ⟨x, hxe⟩ : ∃ x, x = xs.getD k 0 := ⟨_, rfl⟩
      rw [← hv] at hb hsn ⊢
      rw [← hxe] at hck hx hsn
      have HSN := Lib.hid hsn; clear hc hsn hv hxe
      have hw1 : IntKind.i64.wrap (v * 256) = v * 256 := by rw [IntKind.wrap_i64]; omega
      have hw2 : IntKind.i64.wrap (v * 256 + x) = v * 256 + x := by rw [IntKind.wrap_i64]; omega
      go_wp2_with fail
      go_roundw
      case rel => exact ⟨k + 1, by omega, by go_num, by rw [HSN.out], trivial⟩
      case measure => simp [intOf]; omega
    · have hkn : k = s := by omega
      subst hkn
      have hall : xs.take k = xs := List.take_of_length_le (by rw [HL.out]; exact Nat.le_refl _)
      rw [hall]
      go_wp2_with fail
      go_ret
      exact ⟨rfl, rfl⟩
end Go.Proofs.Ytpedlofckbplmaa
