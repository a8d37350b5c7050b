/-
  Chapter 10: the program's reader: a number, a bool, a string.
-/
import Derived.Test.YtggnoeeaoligdaaNC
import Derived.Test.YtggnoeeaoligdaaOneB
namespace Go.Proofs.Ytggnoeeaoligdaa
open Go.RowKit

def byteNum (xs : List Int) : Int := xs.foldl (fun a v => a * 256 + v) 0
theorem byteNum_snoc (xs : List Int) (x : Int) : byteNum (xs ++ [x]) = byteNum xs * 256 + x := by unfold byteNum; rw [List.foldl_append]; rfl
theorem byteNum_in {xs : List Int} (h : ∀ x ∈ xs, 0 ≤ x ∧ x ≤ 255) (hl : xs.length ≤ 2) : 0 ≤ byteNum xs ∧ byteNum xs ≤ 65535 := by
  match xs, hl with
  | [], _ => simp [byteNum]
  | [a], _ => have := h a (by simp); simp [byteNum]; omega
  | [a, b], _ => have := h a (by simp); have := h b (by simp); simp [byteNum]; omega
/-- What the reader's number leaves. -/
def GotI (w : World) (p : Nat) (v : Int) (rest' : List Int) (e : Ending) (w' : World) : Prop := e = .returned (.int .i64 v) ∧ RdrAt w' p rest' ∧ w.grownBy w' (some p)
theorem byte_take {xs : List Int} (h : ∀ x ∈ xs, 0 ≤ x ∧ x ≤ 255) (s : Nat) : ∀ x ∈ xs.take s, 0 ≤ x ∧ x ≤ 255 := fun x hx => h x (List.mem_of_mem_take hx)
theorem RdrAt.bytes {w : World} {p : Nat} {rest : List Int} (h : RdrAt w p rest) : ∀ x ∈ rest, 0 ≤ x ∧ x ≤ 255 := by
  obtain ⟨_, _, _, _, _, _, _, h⟩ := h
  exact h
/-- impl's number. -/
theorem number_ok (p s : Nat) (rest : List Int) (w : World) (h : RdrAt w p rest) (hs : s ≤ rest.length) (h2 : s ≤ 2) :
    Calls Try.prog 131 #[.pointer (some ⟨p, 0, none⟩), .int .i64 s] w (GotI w p (byteNum (rest.take s)) (rest.drop s)) := by
  have hcall := take_ok p s rest w h hs
  have hby := byte_take h.bytes s
  have hl : (rest.take s).length = s := by rw [List.length_take]; omega
  have HC := Lib.hid hcall; clear hcall h hs
  obtain ⟨xs, hxs⟩ : ∃ xs, xs = rest.take s := ⟨_, rfl⟩
  rw [← hxs] at hby hl ⊢
  have HX := Lib.hid hxs; have HBY := Lib.hid hby; have HL := Lib.hid hl; clear hxs hby hl
  go_enter Try.func131, Try.ntmps131
  go_wp2_with fail
  refine HC.out.mono ?_
  rintro e w1 ⟨ao, cap, rfl, hr, hsc, hcm, -, hR, hG⟩
  rw [← HX.out] at hr
  have HR := Lib.hid hr; have HRD := Lib.hid hR; have HG := Lib.hid hG; clear hr hR hG
  go_wp2_with fail
  go_loopw [5, 12] (fun v i wr => ∃ k : Nat, k ≤ s ∧ i = .int .i64 k ∧ v = .int .i64 (byteNum (xs.take k)) ∧ wr = w1) (fun _ i _ => s - (intOf i).toNat)
  case atStart => exact ⟨0, Nat.zero_le _, rfl, rfl, rfl⟩
  case round =>
    obtain ⟨k, hk, rfl, rfl, rfl⟩ := hrel
    have hb := byteNum_in (byte_take HBY.out k) (by rw [List.length_take, HL.out]; omega)
    by_cases hlt : k < s
    · obtain ⟨b, off, rfl, hc⟩ := HR.out.here (by omega)
      have hck := hc k hlt
      have hx := HBY.out _ (getD_mem' (xs := xs) (k := k) (by rw [HL.out]; exact hlt))
      have hsn : byteNum (xs.take (k + 1)) = byteNum (xs.take k) * 256 + xs.getD k 0 := by rw [take_succ' xs k (by rw [HL.out]; exact hlt), byteNum_snoc]
      obtain ⟨v, hv⟩ : ∃ v, v = byteNum (xs.take k) := ⟨_, rfl⟩
      obtain ⟨x, hxe⟩ : ∃ x, x = xs.getD k 0 := ⟨_, rfl⟩
      rw [← hv] at hb hsn ⊢
      rw [← hxe] at hck hx hsn
      have HSN := Lib.hid hsn; clear hc hsn hv hxe
      have hw1 : IntKind.i64.wrap (v * 256) = v * 256 := by rw [IntKind.wrap_i64]; omega
      have hw2 : IntKind.i64.wrap (v * 256 + x) = v * 256 + x := by rw [IntKind.wrap_i64]; omega
      go_wp2_with fail
      go_roundw
      case rel => exact ⟨k + 1, by omega, by go_num, by rw [HSN.out], trivial⟩
      case measure => simp [intOf]; omega
    · have hkn : k = s := by omega
      subst hkn
      have hall : xs.take k = xs := List.take_of_length_le (by rw [HL.out]; exact Nat.le_refl _)
      rw [hall]
      go_wp2_with fail
      go_ret
      exact ⟨rfl, HRD.out, HG.out⟩
theorem number_bad (p s : Nat) (rest : List Int) (w : World) (h : RdrAt w p rest) (hs : rest.length < s) :
    Calls Try.prog 131 #[.pointer (some ⟨p, 0, none⟩), .int .i64 s] w (Bad w p) := by
  have HC := Lib.hid (take_bad p s rest w h hs); clear h hs
  go_enter Try.func131, Try.ntmps131
  go_wp2_with fail
  refine HC.out.mono ?_
  rintro e w1 ⟨⟨u, v, rfl⟩, g1⟩
  go_wp2_with fail
  exact ⟨rfl, ⟨_, _, rfl⟩, g1⟩
theorem byteNum_one {xs : List Int} (h : 1 ≤ xs.length) : byteNum (xs.take 1) = xs.getD 0 0 := by
  match xs, h with
  | a :: r, _ => simp [byteNum]
theorem byteNum_two {xs : List Int} (h : 2 ≤ xs.length) : byteNum (xs.take 2) = xs.getD 0 0 * 256 + xs.getD 1 0 := by
  match xs, h with
  | a :: b :: r, _ => simp [byteNum]
end Go.Proofs.Ytggnoeeaoligdaa
