/-
  Chapter 6: the bytes of a state on both sides; lists compared and copied by the model.
  Chapter 6: FrameBody of the program and of its model.
  Chapter 6: slices.Equal, and what the program reads of a list: stateOfBytes, readBody.
-/
import Derived.Test.YtpedlofckbplmaaSixC
import Derived.Test.YtpedlofckbplmaaSame
import Derived.Test.YtpedlofckbplmaaOne
import Derived.Test.YtpedlofckbplmaaOneB
import Derived.Test.YtpedlofckbplmaaFourA
namespace Go.Proofs.Ytpedlofckbplmaa
section
open Go.RowKit

/-! ### the bytes of a state -/
theorem bits_list {xs : List Int} (hb : ∀ x ∈ xs, 0 ≤ x ∧ x ≤ 1) (hl : xs.length ≤ 8192) : isBits xs = true := isBits_iff.2 ⟨hl, hb⟩
theorem bytes_state (t m r s k : Int) : bitsToBytes (stateBits t m r s k) = (stBytes t m r s k, 0) := by
  rw [bi_0 (bits_list (stateBits_bits _ _ _ _ _) (by rw [stateBits_len]; omega)) (by rw [stateBits_len]), stateBits_len]
  rfl
end

section
open Go.RowKit

theorem head_or {a q : Int} (ha : 0 ≤ a ∧ a ≤ 3) (hq : 0 ≤ q ∧ q ≤ 7) : bits .or .i64 (a * 64) (q * 8) = a * 64 + q * 8 := by
  obtain ⟨a, rfl⟩ := Int.eq_ofNat_of_zero_le ha.1
  obtain ⟨q, rfl⟩ := Int.eq_ofNat_of_zero_le hq.1
  have h1 : a ≤ 3 := by omega
  have h2 : q ≤ 7 := by omega
  rw [show ((a : Nat) : Int) * 64 = ((a * 64 : Nat) : Int) from by omega, show ((q : Nat) : Int) * 8 = ((q * 8 : Nat) : Int) from by omega, or_nat _ _ (by omega) (by omega), ← Int.natCast_add]
  congr 1
  have key : ∀ a : Fin 4, ∀ q : Fin 8, a.val * 64 ||| q.val * 8 = a.val * 64 + q.val * 8 := by decide +kernel
  exact key ⟨a, by omega⟩ ⟨q, by omega⟩
/-- The body, as the walks build it. -/
theorem body_parts {a q t m r s k : Int} {xs : List Int} {x y : Bool} (hx : hasState a = x) (hy : hasData a = y) : frameBytes ⟨a, q, t, m, r, s, k, xs⟩ = [a * 64 + q * 8] ++ (if x = true then stBytes t m r s k else []) ++ (if y = true then [(xs.length : Int)] ++ xs else []) := by subst hx hy; rfl
theorem body_no {f : Fr} (h : isFrame f = false) : frameBody f = ([], 1) := by unfold frameBody; rw [if_neg (by simp [h])]
theorem body_ok {f : Fr} (h : isFrame f = true) : frameBody f = (frameBytes f, 0) := by unfold frameBody; rw [if_pos h]
end

section
open Go.RowKit

/-- A frame handed back with a flag, its data a slice of the call's own; all old memory as it was. -/
def GivesFB (w : World) (f : Fr) (c : Value) (e : Ending) (w' : World) : Prop :=
  ∃ ao cap, e = .returned (.tuple #[.agg #[.int .i64 f.kind, .int .i64 f.req, .int .i64 f.t, .int .i64 f.m, .int .i64 f.r, .int .i64 f.s, .int .i64 f.k, .slice ao f.data.length cap], c]) ∧ Own 2 w' w.heap.size (.slice ao f.data.length cap) f.data ∧ Below w.heap.size w w'
/-- What a reader hands back: a frame and true, or the zero value and false. -/
def GivesOpt (w : World) (x : Option Fr) (e : Ending) (w' : World) : Prop := match x with
  | none => GivesFB w Fr.zero (.bool false) e w'
  | some f => GivesFB w f (.bool true) e w'
theorem bytes_part {xs : List Int} (h : ∀ x ∈ xs, 0 ≤ x ∧ x ≤ 255) (hl : xs.length ≤ 1024) : isBytes xs = true := isBytes_iff.2 ⟨hl, h⟩
theorem flat_bits8 (xs : List Int) : ∀ x ∈ bitsOf8 xs, 0 ≤ x ∧ x ≤ 1 := by
  intro x hx
  obtain ⟨y, -, hy⟩ := List.mem_flatMap.1 hx
  exact bitsOf_bits _ _ x hy
theorem bits8_len (xs : List Int) : (bitsOf8 xs).length = 8 * xs.length := flat_len xs
end
end Go.Proofs.Ytpedlofckbplmaa
