/-
  BitsToBytes, on both sides.
  FlipBits and DifferingBits, on both sides.
  FlipBits and DifferingBits, on both sides (the loops that write).
  DifferingBits, on both sides.
  BitsText and ReadBits, on both sides.
-/
import Derived.Test.YtbbodgeoenjdkaaOne
import Derived.Test.YtbbodgeoenjdkaaBase
import Derived.BigRegion
namespace Go.Proofs.Ytbbodgeoenjdkaa
section
open Go.RowKit

theorem bytesTo_len (xs : List Int) (j : Nat) : (bytesTo xs j).length = j := by simp [bytesTo]
theorem bytesTo_succ (xs : List Int) (j : Nat) : bytesTo xs (j + 1) = bytesTo xs j ++ [numOf ((xs.drop (8 * j)).take 8)] := by simp [bytesTo, List.range_succ]
theorem bytesTo_getD (xs : List Int) (m k : Nat) (h : k < m) : (bytesTo xs m).getD k 0 = numOf ((xs.drop (8 * k)).take 8) := by
  simp [bytesTo, List.getD, h]
theorem bi_1 {xs : List Int} (h : isBits xs = false) : bitsToBytes xs = ([], 1) := by simp [bitsToBytes, h]
theorem bi_5 {xs : List Int} (h : isBits xs = true) (h2 : xs.length % 8 ≠ 0) : bitsToBytes xs = ([], 5) := by
  unfold bitsToBytes; rw [if_neg (by simp [h]), if_pos h2]
theorem bi_0 {xs : List Int} (h : isBits xs = true) (h2 : xs.length % 8 = 0) : bitsToBytes xs = (bytesTo xs (xs.length / 8), 0) := by
  unfold bitsToBytes; rw [if_neg (by simp [h]), if_neg (by omega)]

end

section
open Go.RowKit

theorem quiet_left {P : Program} {f : FuncId} {args : Array Value} {w : World} {n : Nat} {v : Value}
    (h : Calls P f args (w.drewN n) fun e w' => e = .returned v ∧ w.drewN n = w') : Calls P f args (w.drewN n) fun e w'' => e = .returned v ∧ ∃ m, w'' = w.drewN m :=
  h.mono fun _ _ ⟨he, hm⟩ => ⟨he, n, hm.symm⟩

end

section
open Go.RowKit

theorem rises_at {n : Int} {ids : List Int} (h : rises n ids = true) {k : Nat} (hk : k < ids.length) : 0 ≤ ids.getD k 0 ∧ ids.getD k 0 < n := by
  have h1 := rises_iff.1 h
  have h2 := prev_low (k := k) fun i hi => h1 i (by omega)
  have h3 := h1 k hk
  exact ⟨by have := h3.1; omega, h3.2⟩
theorem flips_succ (xs ids : List Int) (k : Nat) (hk : k < ids.length) : flips xs (ids.take (k + 1)) = (flips xs (ids.take k)).set (ids.getD k 0).toNat (1 - (flips xs (ids.take k)).getD (ids.getD k 0).toNat 0) := by
  rw [take_succ' ids k hk, flips_snoc]

end

section
open Go.RowKit

end

section
open Go.RowKit

theorem infoU8 : (Try.prog.info? 5).map (fun i => (i.zero, i.size, i.bytes)) = some (some (.int .u8 0), 1, 1) := by kernel_rfl

def bitsText (xs : List Int) : ByteArray := if isBits xs = false then ByteArray.empty else strOfNums (xs.map fun x => 48 + x)
def isDigit01 (c : Int) : Bool := c == 48 || c == 49
def readBits (cs : List Int) : List Int × Bool := if 8192 < cs.length then ([], false) else if cs.all isDigit01 = true then (cs.map fun c => c - 48, true) else ([], false)
theorem bt_no {xs : List Int} (h : isBits xs = false) : bitsText xs = ByteArray.empty := by simp [bitsText, h]
theorem bt_yes {xs : List Int} (h : isBits xs = true) : bitsText xs = strOfNums (xs.map fun x => 48 + x) := by simp [bitsText, h]
theorem rb_long {cs : List Int} (h : 8192 < cs.length) : readBits cs = ([], false) := by simp [readBits, h]
theorem rb_no {cs : List Int} {k : Nat} (hk : k < cs.length) (h : isDigit01 (cs.getD k 0) = false) : readBits cs = ([], false) := by
  unfold readBits
  split
  · rfl
  · rw [if_neg]
    rw [List.getD, List.getElem?_eq_getElem hk] at h
    intro hh
    have := List.all_eq_true.1 hh cs[k] (List.getElem_mem hk)
    simp at h
    rw [h] at this
    cases this
theorem rb_yes {cs : List Int} (h : ¬ 8192 < cs.length) (h2 : cs.all isDigit01 = true) : readBits cs = (cs.map fun c => c - 48, true) := by simp [readBits, h, h2]
theorem readBits_len (cs : List Int) : (readBits cs).1.length ≤ 8192 := by
  unfold readBits
  split
  · simp
  · split
    · rw [List.length_map]; omega
    · simp
theorem all_succ {p : Int → Bool} {cs : List Int} {k : Nat} (hk : k < cs.length) (h : (cs.take k).all p = true) (hp : p (cs.getD k 0) = true) : (cs.take (k + 1)).all p = true := by
  rw [take_succ' cs k hk, List.all_append, h]; simp only [List.all_cons, List.all_nil, hp, Bool.and_self]

theorem isDigit01_no {c : Int} (h0 : ¬ c = 48) (h1 : ¬ c = 49) : isDigit01 c = false := by simp [isDigit01, h0, h1]

end
end Go.Proofs.Ytbbodgeoenjdkaa
